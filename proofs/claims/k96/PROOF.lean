import PyProof.Rows.All
import Wide.All
import OpenK.AllK
import Wide.FinOn
import Lean
import PyProof.EqAt
import PyProof.EqKinds
import PyProof.TupleCall
import PyProof.ConsumeWalk
import PyProof.StrWalks
import PyProof.IsiPairs
import PyProof.IsiHeapPairs
import PyProof.NeKinds
import KE.KIsAll
import KE.KTryMore
import PyProof.FString
import PyProof.ExcBaseAll.ValueError
import PyProof.NsDelKeeps
import PyProof.ListStr
import PyProof.Rows.StrJoin2
import KE.RegKIsAll
import KE.RegKTryMore
import PyProof.StrOps2
import PyProof.ZipIter
import PyProof.Rows.FactsT2
import PyProof.WalksEnum
import PyProof.EnumMake
import PyProof.Draws
import KE.KUnpack
import PyProof.CallType
import PyProof.CollectIter
import PyProof.JoinWalk
import PyProof.Rows.StrJoinStr
import PyProof.DictRoads
import PyProof.DictKinds
import PyProof.DictStraight
import PyProof.DictDisplay
import PyProof.ReprRoads
import PyProof.ReprLen
import PyProof.SetRoads
import PyProof.Rows.SetFrom
import PyProof.MinMaxWalk
import PyProof.Rows.CallKwBuiltin
import KE.KMinKey
import PyProof.StrLawsChain
import PyProof.StrLawsTight
import PyProof.Rows.StrNews
import PyProof.Rows.StrSplitCount
import PyProof.DictCalls
import PyProof.SliceSyntax
import PyProof.SumWalk
import PyProof.ReprStr
import PyProof.StrLawsRepr
import KE.KLam
import PyProof.SetKind
import PyProof.CollectWalk
import PyProof.Rows.SortStr
import PyProof.StrLawsReplace
import KE.KItemsList
import PyProof.ListNew
import PySem.Challenge.RW_tickrows_k96_whole_told_lists_too
noncomputable section
set_option Elab.async false
set_option linter.all false
set_option maxRecDepth 100000
namespace L2
inductive Dt where
 | non | bl (b : Bool) | int (i : Int) | str (l : List Nat) | tup (ds : List Dt) | lst (ds : List Dt)
mutual
def eqD : Dt → Dt → Bool
 | .non, .non => true
 | .bl a, .bl b => a == b
 | .int a, .int b => a == b
 | .bl a, .int b => (if a then 1 else 0) == b
 | .int a, .bl b => a == (if b then 1 else 0)
 | .str a, .str b => a == b
 | .tup a, .tup b => eqDs a b
 | .lst a, .lst b => eqDs a b
 | _, _ => false
def eqDs : List Dt → List Dt → Bool
 | [], [] => true
 | a :: r, b :: t => eqD a b && eqDs r t
 | _, _ => false
end
mutual
def dep : Dt → Nat
 | .tup ds => deps ds + 1
 | .lst ds => deps ds + 1
 | _ => 0
def deps : List Dt → Nat
 | [] => 0
 | d :: ds => max (dep d) (deps ds)
end
mutual
def sm : Dt → Prop
 | .str l => l.length ≤ 10000
 | .tup ds => ds.length ≤ 10000 ∧ sms ds
 | .lst ds => ds.length ≤ 10000 ∧ sms ds
 | _ => True
def sms : List Dt → Prop
 | [] => True
 | d :: ds => sm d ∧ sms ds
end
theorem sms_mem {d : Dt} : ∀ {ds : List Dt}, sms ds → d ∈ ds → sm d
 | e :: ds, h, hd => by
  simp only [sms] at h
  rcases List.mem_cons.mp hd with z | z
  ·subst z; exact h.1
  ·exact sms_mem h.2 z
theorem sms_of : ∀ {ds : List Dt}, (∀ d ∈ ds, sm d) → sms ds
 | [], _ => by simp only [sms]
 | d :: ds, h => by
  simp only [sms]
  exact ⟨h d List.mem_cons_self, sms_of fun e he => h e (List.mem_cons_of_mem _ he)⟩
theorem sms_append {a b : List Dt} (ha : sms a) (hb : sms b) : sms (a ++ b) := sms_of fun d hd => by
 rcases List.mem_append.mp hd with h | h
 ·exact sms_mem ha h
 ·exact sms_mem hb h
inductive M (α : Type) where
 | ok (a : α) | ex (c : Nat) | bad
def M.bd {α β : Type} : M α → (α → M β) → M β
 | .ok a, k => k a
 | .ex c, _ => .ex c
 | .bad, _ => .bad
def M.calm {α : Type} : M α → M α
 | .ex _ => .bad
 | m => m
@[simp] theorem bd_ok {α β : Type} (a : α) (k : α → M β) : (M.ok a).bd k = k a := .trans rfl rfl
@[simp] theorem bd_ex {α β : Type} (c : Nat) (k : α → M β) : (M.ex c).bd k = .ex c := .trans rfl rfl
@[simp] theorem bd_bad {α β : Type} (k : α → M β) : (M.bad).bd k = .bad := .trans rfl rfl
@[simp] theorem calm_ok {α : Type} (a : α) : (M.ok a).calm = .ok a := .trans rfl rfl
@[simp] theorem calm_bad {α : Type} : (M.bad : M α).calm = .bad := .trans rfl rfl
theorem bd_if {α β : Type} (c : Prop) [Decidable c] (a b : M α) (k : α → M β) : (if c then a else b).bd k = if c then a.bd k else b.bd k := by split <;> rfl
inductive Bd where
 | no | val (d : Dt) | own (ds : List Dt)
abbrev Rho := List Bd
def gv : Option Bd → M Dt
 | some (.val d) => .ok d
 | _ => .bad
def getV (i : Nat) (ρ : Rho) : M Dt := gv ρ[i]?
def putV (i : Nat) (d : Dt) (ρ : Rho) : Rho := ρ.set i (.val d)
def vOnly : Option Bd → Bd
 | some (.val d) => .val d
 | _ => .no
def startR (k : Nat) (fr : List Nat) (ρ : Rho) : Rho := List.replicate k .no ++ fr.map fun j => vOnly ρ[j]?
def pC (d : Dt) : Rho → M Dt := fun _ => .ok d
def p2 (op : Dt → Dt → M Dt) (f g : Rho → M Dt) : Rho → M Dt := fun ρ => (f ρ).bd fun x => (g ρ).bd fun y => op x y
def p1 (op : Dt → M Dt) (f : Rho → M Dt) : Rho → M Dt := fun ρ => (f ρ).bd op
def szS (l : List Nat) : M Dt := if l.length ≤ 10000 then .ok (.str l) else .bad
def szL (l : List Dt) : M Dt := if l.length ≤ 10000 then .ok (.lst l) else .bad
def oAdd : Dt → Dt → M Dt
 | .int a, .int b => .ok (.int (a + b))
 | .str a, .str b => szS (a ++ b)
 | .lst a, .lst b => szL (a ++ b)
 | _, _ => .bad
def oSub : Dt → Dt → M Dt
 | .int a, .int b => .ok (.int (a - b))
 | _, _ => .bad
def smallI (a : Int) : Prop := -(2 ^ 64) < a ∧ a < 2 ^ 64
instance (a : Int) : Decidable (smallI a) := by unfold smallI; infer_instance
def oMul : Dt → Dt → M Dt
 | .int a, .int b => if smallI a ∨ smallI b then .ok (.int (a * b)) else .bad
 | .str a, .int n => if -1000 ≤ n ∧ n ≤ 1000 ∧ a.length ≤ 1000 then szS (List.replicate n.toNat a).flatten else .bad
 | _, _ => .bad
def oMod : Dt → Dt → M Dt
 | .int a, .int b => if 0 < b then .ok (.int (a % b)) else .bad
 | _, _ => .bad
def oDiv : Dt → Dt → M Dt
 | .int a, .int b => if 0 < b ∧ b < 1073741824 then .ok (.int (a / b)) else .bad
 | _, _ => .bad
def oShr : Dt → Dt → M Dt
 | .int a, .int b => if 0 ≤ b then .ok (.int (a / 2 ^ b.toNat)) else .bad
 | _, _ => .bad
def oAnd1 : Dt → M Dt
 | .int a => if 0 ≤ a then .ok (.int (a % 2)) else .bad
 | _ => .bad
def oNeg : Dt → M Dt
 | .int a => .ok (.int (-a))
 | _ => .bad
def oLt : Dt → Dt → M Dt
 | .int a, .int b => .ok (.bl (decide (a < b)))
 | _, _ => .bad
def oLe : Dt → Dt → M Dt
 | .int a, .int b => .ok (.bl (decide (a ≤ b)))
 | _, _ => .bad
def oEq (a b : Dt) : M Dt := if dep a ≤ 50 then .ok (.bl (eqD a b)) else .bad
def oNe (a b : Dt) : M Dt := if dep a ≤ 50 then .ok (.bl (!eqD a b)) else .bad
def flatD : Dt → Bool
 | .non => true
 | .bl _ => true
 | .int _ => true
 | .str _ => true
 | _ => false
def oIn : Dt → Dt → M Dt
 | .str [c], .str l => .ok (.bl (decide (c ∈ l)))
 | a, .lst ds => if flatD a = true ∧ ds.all flatD = true then .ok (.bl (ds.any fun d => eqD d a)) else .bad
 | a, .tup ds => if flatD a = true ∧ ds.all flatD = true then .ok (.bl (ds.any fun d => eqD d a)) else .bad
 | _, _ => .bad
def oNot : Dt → M Dt
 | .bl b => .ok (.bl (!b))
 | _ => .bad
def oNotIn (a b : Dt) : M Dt := (oIn a b).bd oNot
def isNon : Dt → Bool
 | .non => true
 | _ => false
def oIs (a b : Dt) : M Dt := match b with
 | .non => .ok (.bl (isNon a))
 | .bl y => (match a with | .bl x => .ok (.bl (x == y)) | _ => .bad)
 | _ => .bad
def ixZ (n : Nat) (i : Int) : Option Nat := if 0 ≤ i then (if i < n then some i.toNat else none) else if -(n : Int) ≤ i then some (i + n).toNat else none
def atZ {α : Type} (xs : List α) (i : Int) : Option α := (ixZ xs.length i).bind fun j => xs[j]?
def ixC : Option Nat → M Dt
 | some c => .ok (.str [c])
 | none => .bad
def ixD : Option Dt → M Dt
 | some d => .ok d
 | none => .bad
def oIx : Dt → Dt → M Dt
 | .str l, .int i => ixC (atZ l i)
 | .lst l, .int i => ixD (atZ l i)
 | .tup l, .int i => ixD (atZ l i)
 | _, _ => .bad
def sIz (n d : Nat) : Option Int → Nat
 | none => d
 | some i => if i < 0 then (i + n).toNat else min i.toNat n
def cutZ {α : Type} (l : List α) (lo hi : Option Int) : List α := (l.drop (sIz l.length 0 lo)).take (sIz l.length l.length hi - sIz l.length 0 lo)
def oCut (lo hi : Option Int) : Dt → M Dt
 | .str l => .ok (.str (cutZ l lo hi))
 | .lst l => .ok (.lst (cutZ l lo hi))
 | _ => .bad
def intM : Dt → M Int
 | .int i => .ok i
 | _ => .bad
def pPart : Option (Rho → M Dt) → Rho → M (Option Int)
 | none, _ => .ok none
 | some f, ρ => (f ρ).bd fun d => (intM d).bd fun i => .ok (some i)
def pSlice (f : Rho → M Dt) (lo hi : Rho → M (Option Int)) : Rho → M Dt := fun ρ => (f ρ).bd fun d => (lo ρ).bd fun a => (hi ρ).bd fun b => oCut a b d
def truM : Dt → M Bool
 | .bl b => .ok b
 | _ => .bad
def tOf (f : Rho → M Dt) : Rho → M Bool := fun ρ => (f ρ).bd truM
def tNt (f : Rho → M Bool) : Rho → M Bool := fun ρ => (f ρ).bd fun b => .ok (!b)
def tAn (f g : Rho → M Bool) : Rho → M Bool := fun ρ => (f ρ).bd fun b => if b = true then g ρ else .ok false
def pAn (f g : Rho → M Dt) : Rho → M Dt := fun ρ => (f ρ).bd fun d => (truM d).bd fun b => if b = true then g ρ else .ok (.bl false)
def pOr (f g : Rho → M Dt) : Rho → M Dt := fun ρ => (f ρ).bd fun d => (truM d).bd fun b => if b = true then .ok (.bl true) else g ρ
def pIf (c : Rho → M Bool) (f g : Rho → M Dt) : Rho → M Dt := fun ρ => (c ρ).bd fun b => if b = true then f ρ else g ρ
def pChain (op op' : Dt → Dt → M Dt) (f g h : Rho → M Dt) : Rho → M Dt := fun ρ => (f ρ).bd fun x => (g ρ).bd fun y => (op x y).bd fun d => (truM d).bd fun b => if b = true then (h ρ).bd fun z => op' y z else .ok (.bl false)
def aNil : Rho → M (List Dt) := fun _ => .ok []
def aCons (f : Rho → M Dt) (g : Rho → M (List Dt)) : Rho → M (List Dt) := fun ρ => (f ρ).bd fun d => (g ρ).bd fun ds => .ok (d :: ds)
def pLst (f : Rho → M (List Dt)) : Rho → M Dt := fun ρ => (f ρ).bd fun ds => szL ds
def pTup (f : Rho → M (List Dt)) : Rho → M Dt := fun ρ => (f ρ).bd fun ds => if ds.length ≤ 10000 then .ok (.tup ds) else .bad
def repD (ds : List Dt) : Dt → M Dt
 | .int n => if -1000 ≤ n ∧ n ≤ 1000 ∧ ds.length * n.toNat ≤ 10000 then .ok (.lst (List.replicate n.toNat ds).flatten) else .bad
 | _ => .bad
def pRep (f : Rho → M (List Dt)) (g : Rho → M Dt) : Rho → M Dt := fun ρ => (f ρ).bd fun ds => if ds.length ≤ 10000 then (g ρ).bd (repD ds) else .bad
def pCall (F : List Dt → M Dt) (f : Rho → M (List Dt)) : Rho → M Dt := fun ρ => (f ρ).bd F
def bLen : List Dt → M Dt
 | [.str l] => .ok (.int l.length)
 | [.lst l] => .ok (.int l.length)
 | [.tup l] => .ok (.int l.length)
 | _ => .bad
def bools : List Dt → Option (List Bool)
 | [] => some []
 | .bl b :: r => (bools r).map (b :: ·)
 | _ => none
def blM (k : List Bool → Bool) : Option (List Bool) → M Dt
 | some bs => .ok (.bl (k bs))
 | none => .bad
def bAll : List Dt → M Dt
 | [.lst l] => blM (fun bs => bs.all id) (bools l)
 | _ => .bad
def sgD (l : List Nat) : List Dt := l.map fun c => .str [c]
def bList : List Dt → M Dt
 | [.lst l] => .ok (.lst l)
 | [.tup l] => .ok (.lst l)
 | [.str l] => .ok (.lst (sgD l))
 | _ => .bad
def bStr : List Dt → M Dt
 | [.int i] => if 0 ≤ i ∧ i ≤ 9 then .ok (.str [48 + i.toNat]) else .bad
 | _ => .bad
def strsM : List Dt → Option (List (List Nat))
 | [] => some []
 | .str l :: r => (strsM r).map (l :: ·)
 | _ => none
abbrev Sel := Dt → Option (List Dt → M Dt)
def jnM : Option (List (List Nat)) → M Dt
 | some ls => szS ls.flatten
 | none => .bad
def joinM : List Dt → M Dt
 | [.lst ds] => jnM (strsM ds)
 | _ => .bad
def mJoin : Sel
 | .str [] => some joinM
 | _ => none
def mtk : Option (List Dt → M Dt) → M (List Dt) → M Dt
 | some k, m => m.bd k
 | none, _ => .bad
def pMeth (m : Sel) (f : Rho → M Dt) (g : Rho → M (List Dt)) : Rho → M Dt := fun ρ => (f ρ).bd fun d => mtk (m d) (g ρ)
abbrev IM := Rho → M (List Dt)
def seqM : Dt → M (List Dt)
 | .lst l => .ok l
 | .tup l => .ok l
 | .str l => .ok (sgD l)
 | _ => .bad
def iOf (f : Rho → M Dt) : IM := fun ρ => (f ρ).bd seqM
def rngD (lo hi : Int) : List Dt := (List.range (hi - lo).toNat).map fun (k : Nat) => .int (lo + (k : Nat))
def rng1M : List Dt → M (List Dt)
 | [.int n] => if -1000000 ≤ n ∧ n ≤ 10000 then .ok (rngD 0 n) else .bad
 | _ => .bad
def rng2M : List Dt → M (List Dt)
 | [.int a, .int b] => if -1000000 ≤ a ∧ a ≤ 1000000 ∧ -1000000 ≤ b ∧ b ≤ 1000000 ∧ b - a ≤ 10000 then .ok (rngD a b) else .bad
 | _ => .bad
def zipD (a b : List Dt) : List Dt := (a.zip b).map fun p => .tup [p.1, p.2]
def enumD (a : List Dt) : List Dt := (List.range a.length).zipWith (fun (i : Nat) d => .tup [.int (i : Nat), d]) a
def iBy (k : List Dt → M (List Dt)) (f : Rho → M (List Dt)) : IM := fun ρ => (f ρ).bd k
abbrev GM := Dt → Rho → M Rho
def gNm (i : Nat) : GM := fun d ρ => .ok (putV i d ρ)
def gZn : List Dt → Rho → M Rho
 | [], ρ => .ok ρ
 | _, _ => .bad
def gZc (g : GM) (gs : List Dt → Rho → M Rho) : List Dt → Rho → M Rho
 | d :: ds, ρ => (g d ρ).bd fun ρ1 => gs ds ρ1
 | _, _ => .bad
def gTp (n : Nat) (gs : List Dt → Rho → M Rho) : GM
 | .tup ds, ρ => if ds.length = n then gs ds ρ else .bad
 | .lst ds, ρ => if ds.length = n then gs ds ρ else .bad
 | _, _ => .bad
def comM (g : GM) (tc : Rho → M Bool) (te : Rho → M Dt) (ρ0 : Rho) : List Dt → M (List Dt)
 | [] => .ok []
 | d :: ds => (g d ρ0).bd fun ρ1 => (tc ρ1).bd fun b => if b = true then (te ρ1).bd fun x => (comM g tc te ρ0 ds).bd fun xs => .ok (x :: xs) else comM g tc te ρ0 ds
def tYs : Rho → M Bool := fun _ => .ok true
def pComp (k : Nat) (fr : List Nat) (it : IM) (g : GM) (tc : Rho → M Bool) (te : Rho → M Dt) : Rho → M Dt := fun ρ => (it ρ).bd fun ds => (comM g tc te (startR k fr ρ) ds).calm.bd szL
inductive Fl where
 | nx (ρ : Rho) | rt (d : Dt) | bk (ρ : Rho) | ct (ρ : Rho)
abbrev SM := Rho → M Fl
def sSkip : SM := fun ρ => .ok (.nx ρ)
def sqk (t : SM) : Fl → M Fl
 | .nx ρ => t ρ
 | f => .ok f
def sSeq (s t : SM) : SM := fun ρ => (s ρ).bd (sqk t)
def sRet (f : Rho → M Dt) : SM := fun ρ => (f ρ).bd fun d => .ok (.rt d)
def sDrop (f : Rho → M Dt) : SM := fun ρ => (f ρ).bd fun _ => .ok (.nx ρ)
def sAsg (f : Rho → M Dt) (g : GM) : SM := fun ρ => (f ρ).bd fun d => (g d ρ).calm.bd fun ρ' => .ok (.nx ρ')
def sIf (c : Rho → M Bool) (s t : SM) : SM := fun ρ => (c ρ).bd fun b => if b = true then s ρ else t ρ
def fork (k : SM) : Fl → M Fl
 | .nx ρ => k ρ
 | .ct ρ => k ρ
 | .bk ρ => .ok (.nx ρ)
 | .rt d => .ok (.rt d)
def forM' (g : GM) (b : SM) : List Dt → SM
 | [], ρ => .ok (.nx ρ)
 | d :: ds, ρ => (g d ρ).calm.bd fun ρ1 => (b ρ1).calm.bd (fork (forM' g b ds))
def sFor (it : IM) (g : GM) (b : SM) : SM := fun ρ => (it ρ).bd fun ds => forM' g b ds ρ
def sOwn (i : Nat) (f : Rho → M (List Dt)) : SM := fun ρ => (f ρ).bd fun ds => if ds.length ≤ 10000 then .ok (.nx (ρ.set i (.own ds))) else .bad
def relB (i : Nat) (ρ : Rho) : Option Bd → Rho
 | some (.own ds) => ρ.set i (.val (.lst ds))
 | _ => ρ
def rel (i : Nat) (ρ : Rho) : Rho := relB i ρ ρ[i]?
def sRel (i : Nat) (s : SM) : SM := fun ρ => s (rel i ρ)
def appK (i : Nat) (f : Rho → M Dt) (ρ : Rho) : Option Bd → M Fl
 | some (.own ds) => (f ρ).bd fun d => if ds.length < 10000 then .ok (.nx (ρ.set i (.own (ds ++ [d])))) else .bad
 | _ => .bad
def sAppend (i : Nat) (f : Rho → M Dt) : SM := fun ρ => appK i f ρ ρ[i]?
def sForC (it : IM) (g : GM) (b : SM) : SM := fun ρ => (sFor it g b ρ).calm
def uOf (f : Rho → M Dt) : Rho → M Unit := fun ρ => (f ρ).bd fun _ => .ok ()
def uIn : Dt → M Unit
 | .int i => if -2 ≤ i ∧ i ≤ 20 then .ok () else .bad
 | _ => .bad
def uInt (f : Rho → M Dt) : Rho → M Unit := fun ρ => (f ρ).bd uIn
def sRz (c : Nat) (f : Rho → M Unit) : SM := fun ρ => (f ρ).bd fun _ => .ex c
def flV : Fl → M Dt
 | .nx _ => .ok .non
 | .rt d => .ok d
 | _ => .bad
def fnM (np n : Nat) (b : SM) : List Dt → M Dt := fun ds => if ds.length = np then (b (ds.map Bd.val ++ List.replicate n .no)).bd flV else .bad
def lstM : Dt → M (List Dt)
 | .lst l => .ok l
 | _ => .bad
def sqM : Dt → M (List Dt)
 | .lst l => .ok l
 | .str l => .ok (sgD l)
 | _ => .bad
def zip2N : List Dt → M (List Dt)
 | [x, y] => (sqM x).bd fun a => (sqM y).bd fun b => .ok (zipD a b)
 | _ => .bad
def bIntD : List Dt → M Dt
 | [.int i] => .ok (.int i)
 | [.bl b] => .ok (.int (if b then 1 else 0))
 | [.str [48]] => .ok (.int 0)
 | [.str [49]] => .ok (.int 1)
 | _ => .bad
def enumN : List Dt → M (List Dt)
 | [x] => (sqM x).bd fun a => .ok (enumD a)
 | _ => .bad
end L2
namespace Pg
open L2
def B_L_cell : SM := (sSeq (sIf (tOf (p2 oLt (getV 1) (pCall bLen (aCons (getV 0) aNil)))) (sRet (p2 oIx (getV 0) (getV 1))) sSkip)
 (sSeq (sIf (tOf (p2 oEq (getV 0) (pLst aNil))) (sRet (pC (.int 0))) sSkip)
 (sRet (p2 oAdd (p2 oMul (p2 oIx (getV 0) (p2 oMod (getV 1) (pCall bLen (aCons (getV 0) aNil)))) (pC (.int 31))) (getV 1)))))
def F_L_cell : List Dt → M Dt := fnM 2 0 B_L_cell
def B_L_pick : SM := (sSeq (sAsg (p2 oMod (p2 oMul (p2 oAdd (pCall F_L_cell (aCons (getV 0) (aCons (getV 1) aNil))) (p2 oMul (pC (.int 6151)) (p2 oAdd (getV 1) (pC (.int 1))))) (pC (.int 40692))) (pC (.int 2147483399))) (gNm 3))
 (sRet (p2 oMod (p2 oMod (p2 oAdd (p2 oMul (getV 3) (getV 3)) (p2 oDiv (getV 3) (pC (.int 31)))) (pC (.int 2147483629))) (getV 2))))
def F_L_pick : List Dt → M Dt := fnM 3 1 B_L_pick
def L_l_wave_0 : SM := (sIf (tOf (p2 oEq (pCall F_L_pick (aCons (getV 0) (aCons (p2 oAdd (getV 1) (p2 oMul (pC (.int 2)) (getV 5))) (aCons (pC (.int 2)) aNil)))) (pC (.int 0)))) (sAsg (p2 oAdd (getV 4) (p2 oIx (getV 4) (p1 oNeg (pC (.int 1))))) (gNm 4)) (sAsg (p2 oAdd (getV 4) (p2 oIx (getV 3) (pCall F_L_pick (aCons (getV 0) (aCons (p2 oAdd (p2 oAdd (getV 1) (p2 oMul (pC (.int 2)) (getV 5))) (pC (.int 1))) (aCons (pCall bLen (aCons (getV 3) aNil)) aNil)))))) (gNm 4)))
def B_L_wave : SM := (sSeq (sAsg (p2 oIx (getV 3) (pCall F_L_pick (aCons (getV 0) (aCons (getV 1) (aCons (pCall bLen (aCons (getV 3) aNil)) aNil))))) (gNm 4))
 (sSeq (sForC (iBy rng2M (aCons (pC (.int 1)) (aCons (getV 2) aNil))) (gNm 5) L_l_wave_0)
 (sRet (getV 4))))
def F_L_wave : List Dt → M Dt := fnM 4 2 B_L_wave
def B_refuse_too_long : SM := (sIf (tNt (tOf (pChain oLe oLe (pC (.int 1)) (getV 0) (pC (.int 12))))) (sRz 5 (uInt (pC (.int 12)))) sSkip)
def F_refuse_too_long : List Dt → M Dt := fnM 1 0 B_refuse_too_long
def B_changes : SM := (sRet (pComp 1 [0] (iBy rng2M (aCons (pC (.int 1)) (aCons (pCall bLen (aCons (getV 0) aNil)) aNil))) (gNm 0) (tOf (p2 oNe (p2 oIx (getV 1) (getV 0)) (p2 oIx (getV 1) (p2 oSub (getV 0) (pC (.int 1)))))) (pTup (aCons (getV 0) (aCons (p2 oIx (getV 1) (p2 oSub (getV 0) (pC (.int 1)))) (aCons (p2 oIx (getV 1) (getV 0)) aNil))))))
def F_changes : List Dt → M Dt := fnM 1 0 B_changes
def B_rises : SM := (sRet (pComp 3 [] (iOf (pCall F_changes (aCons (getV 0) aNil))) (gTp 3 (gZc (gNm 0) (gZc (gNm 1) (gZc (gNm 2) gZn)))) (tAn (tOf (p2 oEq (getV 1) (pC (.str [48])))) (tOf (p2 oEq (getV 2) (pC (.str [49]))))) (getV 0)))
def F_rises : List Dt → M Dt := fnM 1 0 B_rises
def B_digit_at : SM := (sRet (pIf (tOf (p2 oIs (getV 0) (pC .non))) (pC (.str [120])) (pCall bStr (aCons (p1 oAnd1 (p2 oShr (getV 0) (getV 1))) aNil))))
def F_digit_at : List Dt → M Dt := fnM 2 0 B_digit_at
def B_digit_wave : SM := (sRet (pMeth mJoin (pC (.str [])) (aCons (pComp 1 [1] (iOf (getV 0)) (gNm 0) tYs (pCall F_digit_at (aCons (getV 0) (aCons (getV 1) aNil)))) aNil)))
def F_digit_wave : List Dt → M Dt := fnM 2 0 B_digit_wave
def B_of_one_length : SM := (sRet (pCall bAll (aCons (pComp 1 [0] (iOf (getV 0)) (gNm 0) tYs (p2 oEq (pCall bLen (aCons (getV 0) aNil)) (pCall bLen (aCons (p2 oIx (getV 1) (pC (.int 0))) aNil)))) aNil)))
def F_of_one_length : List Dt → M Dt := fnM 1 0 B_of_one_length
def B_refuse_unlike : SM := (sIf (tNt (tOf (pCall F_of_one_length (aCons (getV 0) aNil)))) (sRz 6 (uOf (pC (.str [116, 104, 101, 32, 119, 97, 118, 101, 115, 32, 104, 97, 118, 101, 32, 117, 110, 108, 105, 107, 101, 32, 108, 101, 110, 103, 116, 104, 115])))) sSkip)
def F_refuse_unlike : List Dt → M Dt := fnM 1 0 B_refuse_unlike
end Pg
namespace L2
def br {α : Type} (b : Bool) (x y : M α) : M α := if b = true then x else y
theorem br_t {α : Type} {x y : M α} : br true x y = x := .trans rfl rfl
theorem br_f {α : Type} {x y : M α} : br false x y = y := .trans rfl rfl
def ck {α : Type} (p : Prop) [Decidable p] (x : M α) : M α := if p then x else .bad
theorem ck_true {α : Type} {x : M α} {i : Decidable True} : @ck α True i x = x := if_pos trivial
theorem ck_of {α : Type} {p : Prop} [Decidable p] {x : M α} (h : p) : ck p x = x := if_pos h
def k2 (op : Dt → Dt → M Dt) (g : Rho → M Dt) (ρ : Rho) (x : Dt) : M Dt := (g ρ).bd (op x)
def kS3 (d : Dt) (a b : Option Int) : M Dt := oCut a b d
def kS2 (hi : Rho → M (Option Int)) (ρ : Rho) (d : Dt) (a : Option Int) : M Dt := (hi ρ).bd (kS3 d a)
def kS1 (lo hi : Rho → M (Option Int)) (ρ : Rho) (d : Dt) : M Dt := (lo ρ).bd (kS2 hi ρ d)
def kNot (b : Bool) : M Bool := .ok (!b)
def kAn (g : Rho → M Bool) (ρ : Rho) (b : Bool) : M Bool := if b = true then g ρ else .ok false
def kPA2 (g : Rho → M Dt) (ρ : Rho) (b : Bool) : M Dt := if b = true then g ρ else .ok (.bl false)
def kPA (g : Rho → M Dt) (ρ : Rho) (d : Dt) : M Dt := (truM d).bd (kPA2 g ρ)
def kPO2 (g : Rho → M Dt) (ρ : Rho) (b : Bool) : M Dt := if b = true then .ok (.bl true) else g ρ
def kPO (g : Rho → M Dt) (ρ : Rho) (d : Dt) : M Dt := (truM d).bd (kPO2 g ρ)
def kIf (f g : Rho → M Dt) (ρ : Rho) (b : Bool) : M Dt := if b = true then f ρ else g ρ
def kC4 (op' : Dt → Dt → M Dt) (h : Rho → M Dt) (ρ : Rho) (y : Dt) (b : Bool) : M Dt := if b = true then (h ρ).bd (op' y) else .ok (.bl false)
def kC3 (op' : Dt → Dt → M Dt) (h : Rho → M Dt) (ρ : Rho) (y d : Dt) : M Dt := (truM d).bd (kC4 op' h ρ y)
def kC2 (op op' : Dt → Dt → M Dt) (h : Rho → M Dt) (ρ : Rho) (x y : Dt) : M Dt := (op x y).bd (kC3 op' h ρ y)
def kC1 (op op' : Dt → Dt → M Dt) (g h : Rho → M Dt) (ρ : Rho) (x : Dt) : M Dt := (g ρ).bd (kC2 op op' h ρ x)
def kA2 (d : Dt) (ds : List Dt) : M (List Dt) := .ok (d :: ds)
def kA1 (fs : Rho → M (List Dt)) (ρ : Rho) (d : Dt) : M (List Dt) := (fs ρ).bd (kA2 d)
def kT (ds : List Dt) : M Dt := ck (ds.length ≤ 10000) (.ok (.tup ds))
def kR (g : Rho → M Dt) (ρ : Rho) (ds : List Dt) : M Dt := ck (ds.length ≤ 10000) ((g ρ).bd (repD ds))
def kM (m : Sel) (fs : Rho → M (List Dt)) (ρ : Rho) (d : Dt) : M Dt := mtk (m d) (fs ρ)
def kCo (k : Nat) (fr : List Nat) (g : GM) (tc : Rho → M Bool) (te : Rho → M Dt) (ρ : Rho) (ds : List Dt) : M Dt := (comM g tc te (startR k fr ρ) ds).calm.bd szL
def kRt (d : Dt) : M Fl := .ok (.rt d)
def kDr (ρ : Rho) (_ : Dt) : M Fl := .ok (.nx ρ)
def kNx (ρ : Rho) : M Fl := .ok (.nx ρ)
def kAs (g : GM) (ρ : Rho) (d : Dt) : M Fl := (g d ρ).calm.bd kNx
def kSi (s t : SM) (ρ : Rho) (b : Bool) : M Fl := if b = true then s ρ else t ρ
def kFo (g : GM) (s : SM) (ρ : Rho) (ds : List Dt) : M Fl := forM' g s ds ρ
def kOw (i : Nat) (ρ : Rho) (ds : List Dt) : M Fl := ck (ds.length ≤ 10000) (.ok (.nx (ρ.set i (.own ds))))
def kAp (i : Nat) (ρ : Rho) (ds : List Dt) (d : Dt) : M Fl := ck (ds.length < 10000) (.ok (.nx (ρ.set i (.own (ds ++ [d])))))
def kF1 (s k : SM) (ρ : Rho) : M Fl := (s ρ).calm.bd (fork k)
def kIn (i : Int) : M (Option Int) := .ok (some i)
def kPt (d : Dt) : M (Option Int) := (intM d).bd kIn
def kZ2 (a b : List Dt) : M (List Dt) := .ok (zipD a b)
def kEn (a : List Dt) : M (List Dt) := .ok (enumD a)
section
variable {ρ : Rho} {f g h : Rho → M Dt} {tf tg : Rho → M Bool} {fs : Rho → M (List Dt)} {s t : SM} {d e x y z : Dt} {ds es gs' : List Dt} {i j n k np c : Nat} {a b : Int} {l m : List Nat} {p q : Bool} {op op' : Dt → Dt → M Dt} {lo hi : Rho → M (Option Int)} {gm : GM} {gs : List Dt → Rho → M Rho} {o o' : Option Int} {F : List Dt → M Dt} {it : IM} {kk : List Dt → M (List Dt)} {sl : Sel}
theorem a_getV : getV i ρ = gv ρ[i]? := .trans rfl rfl
theorem a_gv : gv (some (.val d)) = .ok d := .trans rfl rfl
theorem a_pC : pC d ρ = .ok d := .trans rfl rfl
theorem a_p2 : p2 op f g ρ = (f ρ).bd (k2 op g ρ) := .trans rfl rfl
theorem a_k2 : k2 op g ρ x = (g ρ).bd (op x) := .trans rfl rfl
theorem a_p1 {op : Dt → M Dt} : p1 op f ρ = (f ρ).bd op := .trans rfl rfl
theorem a_pSlice : pSlice f lo hi ρ = (f ρ).bd (kS1 lo hi ρ) := .trans rfl rfl
theorem a_kS1 : kS1 lo hi ρ d = (lo ρ).bd (kS2 hi ρ d) := .trans rfl rfl
theorem a_kS2 : kS2 hi ρ d o = (hi ρ).bd (kS3 d o) := .trans rfl rfl
theorem a_kS3a : kS3 (.str l) o o' = .ok (.str (cutZ l o o')) := .trans rfl rfl
theorem a_part1 : pPart (some f) ρ = (f ρ).bd kPt := .trans rfl rfl
theorem a_kPt : kPt (.int a) = .ok (some a) := .trans rfl rfl
theorem a_tOf : tOf f ρ = (f ρ).bd truM := .trans rfl rfl
theorem a_truM : truM (.bl p) = .ok p := .trans rfl rfl
theorem a_tNt : tNt tf ρ = (tf ρ).bd kNot := .trans rfl rfl
theorem a_kNot : kNot p = .ok (!p) := .trans rfl rfl
theorem a_tAn : tAn tf tg ρ = (tf ρ).bd (kAn tg ρ) := .trans rfl rfl
theorem a_kAnT : kAn tg ρ true = tg ρ := .trans rfl rfl
theorem a_kAnF : kAn tg ρ false = .ok false := .trans rfl rfl
theorem a_pAn : pAn f g ρ = (f ρ).bd (kPA g ρ) := .trans rfl rfl
theorem a_kPA : kPA g ρ (.bl p) = kPA2 g ρ p := .trans rfl rfl
theorem a_kPAT : kPA2 g ρ true = g ρ := .trans rfl rfl
theorem a_pOr : pOr f g ρ = (f ρ).bd (kPO g ρ) := .trans rfl rfl
theorem a_kPO : kPO g ρ (.bl p) = kPO2 g ρ p := .trans rfl rfl
theorem a_kPOF : kPO2 g ρ false = g ρ := .trans rfl rfl
theorem a_pIf : pIf tf f g ρ = (tf ρ).bd (kIf f g ρ) := .trans rfl rfl
theorem a_kIfT : kIf f g ρ true = f ρ := .trans rfl rfl
theorem a_kIfF : kIf f g ρ false = g ρ := .trans rfl rfl
theorem a_pChain : pChain op op' f g h ρ = (f ρ).bd (kC1 op op' g h ρ) := .trans rfl rfl
theorem a_kC1 : kC1 op op' g h ρ x = (g ρ).bd (kC2 op op' h ρ x) := .trans rfl rfl
theorem a_kC2 : kC2 op op' h ρ x y = (op x y).bd (kC3 op' h ρ y) := .trans rfl rfl
theorem a_kC3 : kC3 op' h ρ y (.bl p) = kC4 op' h ρ y p := .trans rfl rfl
theorem a_kC4T : kC4 op' h ρ y true = (h ρ).bd (op' y) := .trans rfl rfl
theorem a_kC4F : kC4 op' h ρ y false = .ok (.bl false) := .trans rfl rfl
theorem a_aNil : aNil ρ = .ok [] := .trans rfl rfl
theorem a_aCons : aCons f fs ρ = (f ρ).bd (kA1 fs ρ) := .trans rfl rfl
theorem a_kA1 : kA1 fs ρ d = (fs ρ).bd (kA2 d) := .trans rfl rfl
theorem a_kA2 : kA2 d ds = .ok (d :: ds) := .trans rfl rfl
theorem a_pLst : pLst fs ρ = (fs ρ).bd szL := .trans rfl rfl
theorem a_pTup : pTup fs ρ = (fs ρ).bd kT := .trans rfl rfl
theorem a_kT : kT ds = ck (ds.length ≤ 10000) (.ok (.tup ds)) := .trans rfl rfl
theorem a_pRep : pRep fs g ρ = (fs ρ).bd (kR g ρ) := .trans rfl rfl
theorem a_kR : kR g ρ ds = ck (ds.length ≤ 10000) ((g ρ).bd (repD ds)) := .trans rfl rfl
theorem a_repD : repD ds (.int a) = ck (-1000 ≤ a ∧ a ≤ 1000 ∧ ds.length * a.toNat ≤ 10000) (.ok (.lst (List.replicate a.toNat ds).flatten)) := .trans rfl rfl
theorem a_pCall : pCall F fs ρ = (fs ρ).bd F := .trans rfl rfl
theorem a_pMeth : pMeth sl f fs ρ = (f ρ).bd (kM sl fs ρ) := .trans rfl rfl
theorem a_kM : kM sl fs ρ d = mtk (sl d) (fs ρ) := .trans rfl rfl
theorem a_mtk {k : List Dt → M Dt} {m : M (List Dt)} : mtk (some k) m = m.bd k := .trans rfl rfl
theorem a_iOf : iOf f ρ = (f ρ).bd seqM := .trans rfl rfl
theorem a_iBy : iBy kk fs ρ = (fs ρ).bd kk := .trans rfl rfl
theorem a_gNm : gNm i d ρ = .ok (ρ.set i (.val d)) := .trans rfl rfl
theorem a_gZn : gZn [] ρ = .ok ρ := .trans rfl rfl
theorem a_gZc : gZc gm gs (d :: ds) ρ = (gm d ρ).bd (gs ds) := .trans rfl rfl
theorem a_gTp1 : gTp n gs (.tup ds) ρ = ck (ds.length = n) (gs ds ρ) := .trans rfl rfl
theorem a_pComp {fr : List Nat} {tc : Rho → M Bool} {te : Rho → M Dt} : pComp k fr it gm tc te ρ = (it ρ).bd (kCo k fr gm tc te ρ) := .trans rfl rfl
theorem a_tYs : tYs ρ = .ok true := .trans rfl rfl
theorem a_sSkip : sSkip ρ = .ok (.nx ρ) := .trans rfl rfl
theorem a_sSeq : sSeq s t ρ = (s ρ).bd (sqk t) := .trans rfl rfl
theorem a_sqk1 : sqk s (.nx ρ) = s ρ := .trans rfl rfl
theorem a_sqk2 : sqk s (.rt d) = .ok (.rt d) := .trans rfl rfl
theorem a_sRet : sRet f ρ = (f ρ).bd kRt := .trans rfl rfl
theorem a_kRt : kRt d = .ok (.rt d) := .trans rfl rfl
theorem a_sDrop : sDrop f ρ = (f ρ).bd (kDr ρ) := .trans rfl rfl
theorem a_kDr : kDr ρ d = .ok (.nx ρ) := .trans rfl rfl
theorem a_sAsg : sAsg f gm ρ = (f ρ).bd (kAs gm ρ) := .trans rfl rfl
theorem a_kAs : kAs gm ρ d = (gm d ρ).calm.bd kNx := .trans rfl rfl
theorem a_kNx : kNx ρ = .ok (.nx ρ) := .trans rfl rfl
theorem a_sIf : sIf tf s t ρ = (tf ρ).bd (kSi s t ρ) := .trans rfl rfl
theorem a_kSiT : kSi s t ρ true = s ρ := .trans rfl rfl
theorem a_kSiF : kSi s t ρ false = t ρ := .trans rfl rfl
theorem a_sForC : sForC it gm s ρ = ((it ρ).bd (kFo gm s ρ)).calm := .trans rfl rfl
theorem a_kFo : kFo gm s ρ ds = forM' gm s ds ρ := .trans rfl rfl
theorem a_forS : forM' gm s (d :: ds) ρ = (gm d ρ).calm.bd (kF1 s (forM' gm s ds)) := .trans rfl rfl
theorem a_kF1 {k : SM} : kF1 s k ρ = (s ρ).calm.bd (fork k) := .trans rfl rfl
theorem a_sOwn : sOwn i fs ρ = (fs ρ).bd (kOw i ρ) := .trans rfl rfl
theorem a_kOw : kOw i ρ ds = ck (ds.length ≤ 10000) (.ok (.nx (ρ.set i (.own ds)))) := .trans rfl rfl
theorem a_sRel : sRel i s ρ = s (relB i ρ ρ[i]?) := .trans rfl rfl
theorem a_relB : relB i ρ (some (.own ds)) = ρ.set i (.val (.lst ds)) := .trans rfl rfl
theorem a_sAppend : sAppend i f ρ = appK i f ρ ρ[i]? := .trans rfl rfl
theorem a_appK : appK i f ρ (some (.own ds)) = (f ρ).bd (kAp i ρ ds) := .trans rfl rfl
theorem a_kAp : kAp i ρ ds d = ck (ds.length < 10000) (.ok (.nx (ρ.set i (.own (ds ++ [d]))))) := .trans rfl rfl
theorem a_fnM : fnM np n s ds = ck (ds.length = np) ((s (ds.map Bd.val ++ List.replicate n .no)).bd flV) := .trans rfl rfl
theorem a_flV1 : flV (.nx ρ) = .ok .non := .trans rfl rfl
theorem a_flV2 : flV (.rt d) = .ok d := .trans rfl rfl
theorem a_addI : oAdd (.int a) (.int b) = .ok (.int (a + b)) := .trans rfl rfl
theorem a_addS : oAdd (.str l) (.str m) = szS (l ++ m) := .trans rfl rfl
theorem a_addL : oAdd (.lst ds) (.lst es) = szL (ds ++ es) := .trans rfl rfl
theorem a_sub : oSub (.int a) (.int b) = .ok (.int (a - b)) := .trans rfl rfl
theorem a_mulI : oMul (.int a) (.int b) = ck ((-(2 ^ 64) < a ∧ a < 2 ^ 64) ∨ (-(2 ^ 64) < b ∧ b < 2 ^ 64)) (.ok (.int (a * b))) := .trans rfl rfl
theorem a_mod : oMod (.int a) (.int b) = ck (0 < b) (.ok (.int (a % b))) := .trans rfl rfl
theorem a_div : oDiv (.int a) (.int b) = ck (0 < b ∧ b < 1073741824) (.ok (.int (a / b))) := .trans rfl rfl
theorem a_shr : oShr (.int a) (.int b) = ck (0 ≤ b) (.ok (.int (a / 2 ^ b.toNat))) := .trans rfl rfl
theorem a_and1 : oAnd1 (.int a) = ck (0 ≤ a) (.ok (.int (a % 2))) := .trans rfl rfl
theorem a_neg : oNeg (.int a) = .ok (.int (-a)) := .trans rfl rfl
theorem a_lt : oLt (.int a) (.int b) = .ok (.bl (decide (a < b))) := .trans rfl rfl
theorem a_le : oLe (.int a) (.int b) = .ok (.bl (decide (a ≤ b))) := .trans rfl rfl
theorem a_eq : oEq d e = ck (dep d ≤ 50) (.ok (.bl (eqD d e))) := .trans rfl rfl
theorem a_eqI : oEq (.int a) (.int b) = .ok (.bl (decide (a = b))) := .trans rfl rfl
theorem a_neI : oNe (.int a) (.int b) = .ok (.bl (!decide (a = b))) := .trans rfl rfl
theorem a_not : oNot (.bl p) = .ok (.bl (!p)) := .trans rfl rfl
theorem a_notin : oNotIn d e = (oIn d e).bd oNot := .trans rfl rfl
theorem a_isN : oIs d .non = .ok (.bl (isNon d)) := .trans rfl rfl
theorem a_ixS : oIx (.str l) (.int a) = ixC (atZ l a) := .trans rfl rfl
theorem a_ixL : oIx (.lst ds) (.int a) = ixD (atZ ds a) := .trans rfl rfl
theorem a_ixT : oIx (.tup ds) (.int a) = ixD (atZ ds a) := .trans rfl rfl
theorem a_ixC : ixC (some c) = .ok (.str [c]) := .trans rfl rfl
theorem a_ixD : ixD (some d) = .ok d := .trans rfl rfl
theorem a_lenS : bLen [.str l] = .ok (.int l.length) := .trans rfl rfl
theorem a_lenL : bLen [.lst ds] = .ok (.int ds.length) := .trans rfl rfl
theorem a_all : bAll [.lst ds] = blM (fun bs => bs.all id) (bools ds) := .trans rfl rfl
theorem a_list1 : bList [.lst ds] = .ok (.lst ds) := .trans rfl rfl
theorem a_seqL : seqM (.lst ds) = .ok ds := .trans rfl rfl
theorem a_seqT : seqM (.tup ds) = .ok ds := .trans rfl rfl
theorem a_mJoin : mJoin (.str []) = some joinM := .trans rfl rfl
theorem a_joinM : joinM [.lst ds] = jnM (strsM ds) := .trans rfl rfl
theorem a_vOnly : vOnly (some (.val d)) = .val d := .trans rfl rfl
theorem a_kZ2 : kZ2 ds es = .ok (zipD ds es) := .trans rfl rfl
theorem a_kEn : kEn ds = .ok (enumD ds) := .trans rfl rfl
theorem a_rng1 : rng1M [.int a] = ck (-1000000 ≤ a ∧ a ≤ 10000) (.ok (rngD 0 a)) := .trans rfl rfl
theorem a_rng2 : rng2M [.int a, .int b] = ck (-1000000 ≤ a ∧ a ≤ 1000000 ∧ -1000000 ≤ b ∧ b ≤ 1000000 ∧ b - a ≤ 10000) (.ok (rngD a b)) := .trans rfl rfl
theorem a_str1 : bStr [.int a] = ck (0 ≤ a ∧ a ≤ 9) (.ok (.str [48 + a.toNat])) := .trans rfl rfl
theorem a_blM {k : List Bool → Bool} {bs : List Bool} : blM k (some bs) = .ok (.bl (k bs)) := .trans rfl rfl
theorem a_jnM {ls : List (List Nat)} : jnM (some ls) = szS ls.flatten := .trans rfl rfl
theorem a_eqS : oEq (.str l) (.str m) = .ok (.bl (decide (l = m))) := by
 show M.ok (Dt.bl (l == m)) = _
 congr 2
 by_cases h : l = m <;> simp [h]
theorem a_neS : oNe (.str l) (.str m) = .ok (.bl (!decide (l = m))) := by
 show M.ok (Dt.bl (!(l == m))) = _
 congr 2
 by_cases h : l = m <;> simp [h]
theorem szS_ok (h : l.length ≤ 10000) : szS l = .ok (.str l) := by unfold szS; rw [if_pos h]
theorem szL_ok (h : ds.length ≤ 10000) : szL ds = .ok (.lst ds) := by unfold szL; rw [if_pos h]
end
end L2
section MacS
open L2
local macro_rules
 | `(tactic| exists evw, $xs:term,*) => `(tactic| simp only [a_getV, a_gv, a_pC, a_p2, a_k2, a_p1, a_pSlice, a_kS1, a_kS2, a_kS3a, a_part1, a_kPt, a_tOf, a_truM, a_tNt, a_kNot, a_tAn, a_kAnT, a_kAnF, a_pAn, a_kPA, a_kPAT, a_pOr, a_kPO, a_kPOF, a_pIf, a_kIfT, a_kIfF, a_pChain, a_kC1, a_kC2, a_kC3, a_kC4T, a_kC4F, a_aNil, a_aCons, a_kA1, a_kA2, a_pLst, a_pTup, a_kT, a_pRep, a_kR, a_repD, a_pCall, a_pMeth, a_kM, a_mtk, a_iOf, a_iBy, a_gNm, a_gZn, a_gZc, a_gTp1, a_pComp, a_tYs, a_sSkip, a_sSeq, a_sqk1, a_sqk2, a_sRet, a_kRt, a_sDrop, a_kDr, a_sAsg, a_kAs, a_kNx, a_sIf, a_kSiT, a_kSiF, a_sForC, a_kFo, a_forS, a_kF1, a_sOwn, a_kOw, a_sRel, a_relB, a_sAppend, a_appK, a_kAp, a_fnM, a_flV1, a_flV2, a_addI, a_addS, a_addL, a_sub, a_mulI, a_mod, a_div, a_shr, a_and1, a_neg, a_lt, a_le, a_eqI, a_neI, a_not, a_notin, a_isN, a_ixS, a_ixL, a_ixT, a_ixC, a_ixD, a_lenS, a_lenL, a_all, a_list1, a_seqL, a_seqT, a_mJoin, a_joinM, a_vOnly, a_kZ2, a_kEn, a_rng1, a_rng2, a_str1, a_blM, a_jnM, a_eqS, a_neS, br_t, br_f, bd_ok, bd_ex, bd_bad, calm_ok, calm_bad, List.length_cons, List.length_nil, List.map_cons, List.map_nil, List.replicate_succ, List.replicate_zero, List.cons_append, List.nil_append, List.append_nil, List.getElem?_cons_zero, List.getElem?_cons_succ, List.set_cons_succ, List.set_cons_zero, List.length_map, Nat.reduceAdd, Nat.zero_add, Bool.not_true, Bool.not_false, decide_true, decide_false, ck_true, eq_self, $[$xs:term],*])
local macro_rules
 | `(tactic| exists ev) => `(tactic| try exists evw, eq_self)
 | `(tactic| exists go) => `(tactic| repeat (first | rw [ck_of (by omega)] | rw [szS_ok (by (try simp only [List.length_append, List.length_cons, List.length_nil]); omega)] | rw [szL_ok (by (try simp only [List.length_append, List.length_cons, List.length_nil]); omega)] | exists evw, eq_self))
namespace Pg
open L2
def cellZ (ns : List Int) (k : Int) : Int :=
 if k < ns.length then ns.getD k.toNat 0 else if ns = [] then 0 else ns.getD (k % (ns.length : Int)).toNat 0 * 31 + k
def drawnZ (ns : List Int) (k : Int) : Int := (cellZ ns k + 6151 * (k + 1)) * 40692 % 2147483399
def pickZ (ns : List Int) (k many : Int) : Int := (drawnZ ns k * drawnZ ns k + drawnZ ns k / 31) % 2147483629 % many
theorem drawnZ_lo (ns : List Int) (k : Int) : 0 ≤ drawnZ ns k := Int.emod_nonneg _ (by decide)
theorem drawnZ_hi (ns : List Int) (k : Int) : drawnZ ns k < 2147483399 := Int.emod_lt_of_pos _ (by decide)
theorem pickZ_lo (ns : List Int) (k : Int) {many : Int} (h : 0 < many) : 0 ≤ pickZ ns k many := Int.emod_nonneg _ (by omega)
theorem pickZ_hi (ns : List Int) (k : Int) {many : Int} (h : 0 < many) : pickZ ns k many < many := Int.emod_lt_of_pos _ h
abbrev scr (ns : List Int) : Dt := .lst (ns.map Dt.int)
theorem atZ_nat {α : Type} {l : List α} {n : Nat} {x : α} (h : l[n]? = some x) : atZ l (n : Int) = some x := by
 have hlt : n < l.length := (List.getElem?_eq_some_iff.mp h).1
 unfold atZ ixZ
 rw [if_pos (by omega), if_pos (by omega)]
 simpa using h
theorem atZ_int {α : Type} {l : List α} {i : Int} (h0 : 0 ≤ i) (h1 : i < l.length) : atZ l i = some (l[i.toNat]'(by omega)) := by
 obtain ⟨n, rfl⟩ : ∃ n : Nat, i = n := ⟨i.toNat, by omega⟩
 refine atZ_nat ?_
 simp
theorem atZ_ints {ns : List Int} {k : Int} (h0 : 0 ≤ k) (h1 : k < ns.length) : atZ (ns.map Dt.int) k = some (.int (ns.getD k.toNat 0)) := by
 rw [atZ_int h0 (by simpa using h1)]
 have hlt : k.toNat < ns.length := by omega
 simp [hlt]
theorem dep_ints : ∀ ns : List Int, deps (ns.map Dt.int) = 0
 | [] => rfl
 | n :: ns => by simp only [List.map_cons, deps, dep, dep_ints ns]; omega
theorem eqD_nil (ns : List Int) : eqD (scr ns) (.lst []) = decide (ns = []) := by
 cases ns <;> simp [eqD, eqDs, scr]
theorem cell_eq {ns : List Int} {k : Int} (hk : 0 ≤ k) : F_L_cell [scr ns, .int k] = .ok (.int (cellZ ns k)) := by
 unfold F_L_cell B_L_cell cellZ
 exists go
 by_cases h1 : k < ns.length
 ·simp only [h1, decide_true, if_true]
  exists go
  rw [atZ_ints hk h1]
  exists go
 ·simp only [h1, decide_false, if_false]
  exists go
  rw [a_eq, ck_of (by simp only [dep, dep_ints]; omega), eqD_nil]
  by_cases h2 : ns = []
  ·simp only [h2, decide_true, if_true]
   exists go
  ·have hp : 0 < (ns.length : Int) := by have := List.length_pos_iff.mpr h2; omega
   have m0 : 0 ≤ k % (ns.length : Int) := Int.emod_nonneg _ (by omega)
   have m1 : k % (ns.length : Int) < ns.length := Int.emod_lt_of_pos _ hp
   simp only [h2, decide_false, if_false]
   exists go
   rw [atZ_ints m0 m1]
   exists go
theorem pick_eq {ns : List Int} {k many : Int} (hk : 0 ≤ k) (hm : 0 < many) : F_L_pick [scr ns, .int k, .int many] = .ok (.int (pickZ ns k many)) := by
 have d0 := drawnZ_lo ns k
 have d1 := drawnZ_hi ns k
 unfold F_L_pick B_L_pick
 exists go
 rw [cell_eq hk]
 exists go
 rw [show (cellZ ns k + 6151 * (k + 1)) * 40692 % 2147483399 = drawnZ ns k from rfl]
 exists go
 rfl
mutual
theorem eqD_refl : ∀ d : Dt, eqD d d = true
 | .non => rfl
 | .bl b => by simp [eqD]
 | .int b => by simp [eqD]
 | .str b => by simp [eqD]
 | .tup b => by simp only [eqD]; exact eqDs_refl b
 | .lst b => by simp only [eqD]; exact eqDs_refl b
theorem eqDs_refl : ∀ d : List Dt, eqDs d d = true
 | [] => rfl
 | a :: r => by simp only [eqDs]; rw [eqD_refl a, eqDs_refl r]; rfl
end
theorem for_list {g : GM} {b : SM} : ∀ (ds : List Dt) (st : Nat → Rho), (∀ i d, ds[i]? = some d → ((g d (st i)).calm.bd fun ρ1 => (b ρ1).calm) = .ok (.nx (st (i + 1)))) → forM' g b ds (st 0) = .ok (.nx (st ds.length))
 | [], st, _ => rfl
 | d :: ds, st, h => by
  have h0 := h 0 d rfl
  have ih := for_list ds (fun i => st (i + 1)) fun i e he => h (i + 1) e (by simpa using he)
  rw [a_forS]
  cases hg : g d (st 0) with
  | ok ρ1 =>
   rw [hg] at h0
   simp only [calm_ok, bd_ok] at h0 ⊢
   rw [a_kF1, h0]
   exact ih
  | ex c => rw [hg] at h0; cases h0
  | bad => rw [hg] at h0; cases h0
theorem for_range {g : GM} {b : SM} (lo hi : Int) (st : Nat → Rho) (h : ∀ i : Nat, i < (hi - lo).toNat → ((g (.int (lo + i)) (st i)).calm.bd fun ρ1 => (b ρ1).calm) = .ok (.nx (st (i + 1)))) : forM' g b (rngD lo hi) (st 0) = .ok (.nx (st (hi - lo).toNat)) := by
 have e : (rngD lo hi).length = (hi - lo).toNat := by simp [rngD]
 rw [← e]
 refine for_list _ st fun i d hd => ?_
 unfold rngD at hd
 simp only [List.getElem?_map, Option.map_eq_some_iff] at hd
 obtain ⟨j, hj, rfl⟩ := hd
 have hi' : i < (hi - lo).toNat := by
  have := (List.getElem?_eq_some_iff.mp hj).1
  simpa using this
 rw [List.getElem?_range hi'] at hj
 cases hj
 exact h i hi'
theorem for_rangeS {g : GM} {b : SM} {lo hi : Int} {ρ0 : Rho} (st : Nat → Rho) (h0 : ρ0 = st 0) (h : ∀ i : Nat, i < (hi - lo).toNat → ((g (.int (lo + i)) (st i)).calm.bd fun ρ1 => (b ρ1).calm) = .ok (.nx (st (i + 1)))) : forM' g b (rngD lo hi) ρ0 = .ok (.nx (st (hi - lo).toNat)) := by
 subst h0
 exact for_range lo hi st h
def signZ (ns : List Int) (k : Int) (sg : List Nat) : Nat := sg.getD (pickZ ns k sg.length).toNat 0
theorem signZ_mem (ns : List Int) (k : Int) {sg : List Nat} (h : sg ≠ []) : signZ ns k sg ∈ sg := by
 have hp : 0 < (sg.length : Int) := by
  have := List.length_pos_iff.mpr h
  omega
 have h1 := pickZ_lo ns k hp
 have h2 := pickZ_hi ns k hp
 unfold signZ
 have hlt : (pickZ ns k sg.length).toNat < sg.length := by omega
 rw [List.getD_eq_getElem?_getD, List.getElem?_eq_getElem hlt, Option.getD_some]
 exact List.getElem_mem hlt
theorem signZ_at (ns : List Int) (k : Int) {sg : List Nat} (h : sg ≠ []) : atZ sg (pickZ ns k sg.length) = some (signZ ns k sg) := by
 have hp : 0 < (sg.length : Int) := by
  have := List.length_pos_iff.mpr h
  omega
 have h1 := pickZ_lo ns k hp
 have h2 := pickZ_hi ns k hp
 rw [atZ_int h1 h2]
 have hlt : (pickZ ns k sg.length).toNat < sg.length := by omega
 unfold signZ
 rw [List.getD_eq_getElem?_getD, List.getElem?_eq_getElem hlt, Option.getD_some]
def waveN (ns : List Int) (a : Int) (sg : List Nat) : Nat → List Nat
 | 0 => [signZ ns a sg]
 | k + 1 => if pickZ ns (a + 2 * ((k : Int) + 1)) 2 = 0 then waveN ns a sg k ++ [(waveN ns a sg k).getLastD 0] else waveN ns a sg k ++ [signZ ns (a + 2 * ((k : Int) + 1) + 1) sg]
def waveL (ns : List Int) (a many : Int) (sg : List Nat) : List Nat := waveN ns a sg (many - 1).toNat
theorem waveN_length (ns : List Int) (a : Int) (sg : List Nat) : ∀ k, (waveN ns a sg k).length = k + 1
 | 0 => rfl
 | k + 1 => by
  unfold waveN
  split <;> simp [waveN_length ns a sg k]
theorem waveN_mem (ns : List Int) (a : Int) {sg : List Nat} (h : sg ≠ []) : ∀ k, ∀ c ∈ waveN ns a sg k, c ∈ sg
 | 0 => by
  intro c hc
  simp [waveN] at hc
  rw [hc]
  exact signZ_mem ns a h
 | k + 1 => by
  intro c hc
  have ih := waveN_mem ns a h k
  unfold waveN at hc
  split at hc
  ·rcases List.mem_append.mp hc with hc | hc
   ·exact ih c hc
   ·simp only [List.mem_singleton] at hc
    have hne : waveN ns a sg k ≠ [] := by
     intro z
     have := waveN_length ns a sg k
     rw [z] at this
     simp at this
    rw [hc, List.getLastD_eq_getLast?, List.getLast?_eq_some_getLast hne, Option.getD_some]
    exact ih _ (List.getLast_mem hne)
  ·rcases List.mem_append.mp hc with hc | hc
   ·exact ih c hc
   ·simp only [List.mem_singleton] at hc
    rw [hc]
    exact signZ_mem ns _ h
theorem waveL_length (ns : List Int) (a : Int) {many : Int} (sg : List Nat) (h : 1 ≤ many) : ((waveL ns a many sg).length : Int) = many := by
 unfold waveL
 rw [waveN_length]
 omega
theorem waveL_mem (ns : List Int) (a many : Int) {sg : List Nat} (h : sg ≠ []) : ∀ c ∈ waveL ns a many sg, c ∈ sg := waveN_mem ns a h _
theorem atZ_last {l : List Nat} (h : l ≠ []) : atZ l (-1) = some (l.getLastD 0) := by
 have hp := List.length_pos_iff.mpr h
 unfold atZ ixZ
 rw [if_neg (by omega), if_pos (by omega)]
 have e : ((-1 : Int) + (l.length : Nat)).toNat = l.length - 1 := by omega
 simp only [Option.bind_some, e]
 rw [List.getLastD_eq_getLast?, List.getLast?_eq_getElem?, List.getElem?_eq_getElem (by omega)]
 rfl
theorem wave_eq {ns : List Int} {a many : Int} {sg : List Nat} (ha : 0 ≤ a) (h1 : 1 ≤ many) (h2 : many ≤ 1000) (hs : sg ≠ []) (hz : sg.length ≤ 1000) : F_L_wave [scr ns, .int a, .int many, .str sg] = .ok (.str (waveL ns a many sg)) := by
 have hp : 0 < (sg.length : Int) := by
  have := List.length_pos_iff.mpr hs
  omega
 unfold F_L_wave B_L_wave L_l_wave_0
 exists go
 rw [pick_eq ha hp]
 exists go
 rw [signZ_at ns a hs]
 exists go
 rw [for_rangeS (st := fun i => [.val (scr ns), .val (.int a), .val (.int many), .val (.str sg), .val (.str (waveN ns a sg i)), match i with | 0 => .no | j + 1 => .val (.int (1 + (j : Nat)))])]
 ·exists go
  rfl
 ·rfl
 ·intro i hi
  have wl := waveN_length ns a sg i
  have wne : waveN ns a sg i ≠ [] := by
   intro z
   rw [z] at wl
   simp at wl
  exists go
  rw [pick_eq (by omega) (by decide)]
  exists go
  have e0 : a + 2 * (1 + (i : Int)) = a + 2 * ((i : Int) + 1) := by omega
  by_cases hq : pickZ ns (a + 2 * ((i : Int) + 1)) 2 = 0
  ·rw [e0]
   simp only [hq, decide_true]
   exists go
   rw [atZ_last wne]
   exists go
   simp only [waveN, hq, if_true]
  ·rw [e0]
   simp only [hq, decide_false]
   exists go
   rw [pick_eq (by omega) hp]
   exists go
   rw [signZ_at ns _ hs]
   exists go
   simp only [waveN, hq, if_false]
   rw [e0]
def kSome (x : Dt) : M (Option Dt) := .ok (some x)
def kX2 (te : Rho → M Dt) (ρ : Rho) (b : Bool) : M (Option Dt) := if b = true then (te ρ).bd kSome else .ok none
def kX1 (tc : Rho → M Bool) (te : Rho → M Dt) (ρ : Rho) : M (Option Dt) := (tc ρ).bd (kX2 te ρ)
def stC (g : GM) (tc : Rho → M Bool) (te : Rho → M Dt) (ρ0 : Rho) (d : Dt) : M (Option Dt) := (g d ρ0).bd (kX1 tc te)
theorem c_some {x : Dt} : kSome x = .ok (some x) := .trans rfl rfl
theorem c_x2t {te : Rho → M Dt} {ρ : Rho} : kX2 te ρ true = (te ρ).bd kSome := .trans rfl rfl
theorem c_x2f {te : Rho → M Dt} {ρ : Rho} : kX2 te ρ false = .ok none := .trans rfl rfl
theorem c_x1 {tc : Rho → M Bool} {te : Rho → M Dt} {ρ : Rho} : kX1 tc te ρ = (tc ρ).bd (kX2 te ρ) := .trans rfl rfl
theorem c_st {g : GM} {tc : Rho → M Bool} {te : Rho → M Dt} {ρ : Rho} {d : Dt} : stC g tc te ρ d = (g d ρ).bd (kX1 tc te) := .trans rfl rfl
theorem com_of {g : GM} {tc : Rho → M Bool} {te : Rho → M Dt} {ρ0 : Rho} (f : Dt → Option Dt) : ∀ (ds : List Dt), (∀ d ∈ ds, stC g tc te ρ0 d = .ok (f d)) → comM g tc te ρ0 ds = .ok (ds.filterMap f)
 | [], _ => rfl
 | d :: ds, h => by
  have h0 := h d List.mem_cons_self
  have ih := com_of f ds fun e he => h e (List.mem_cons_of_mem _ he)
  simp only [comM]
  rw [c_st] at h0
  cases hg : g d ρ0 with
  | ok ρ1 =>
   rw [hg] at h0
   simp only [bd_ok, c_x1] at h0 ⊢
   cases ht : tc ρ1 with
   | ok b =>
    rw [ht] at h0
    simp only [bd_ok] at h0 ⊢
    cases b with
    | false =>
     rw [c_x2f] at h0
     cases hf : f d with
     | none => simp only [Bool.false_eq_true, if_false, ih, List.filterMap_cons, hf]
     | some x => rw [hf] at h0; cases h0
    | true =>
     rw [c_x2t] at h0
     simp only [if_true]
     cases hx : te ρ1 with
     | ok x =>
      rw [hx] at h0
      simp only [bd_ok, c_some] at h0 ⊢
      injection h0 with h0
      simp only [ih, bd_ok, List.filterMap_cons, ← h0]
     | ex c => rw [hx] at h0; cases h0
     | bad => rw [hx] at h0; cases h0
   | ex c => rw [ht] at h0; cases h0
   | bad => rw [ht] at h0; cases h0
  | ex c => rw [hg] at h0; cases h0
  | bad => rw [hg] at h0; cases h0
theorem com_map {α : Type} {g : GM} {tc : Rho → M Bool} {te : Rho → M Dt} {ρ0 : Rho} (e : α → Dt) (f : α → Option Dt) : ∀ (xs : List α), (∀ x ∈ xs, stC g tc te ρ0 (e x) = .ok (f x)) → comM g tc te ρ0 (xs.map e) = .ok (xs.filterMap f)
 | [], _ => rfl
 | x :: xs, h => by
  have h1 := com_of (g := g) (tc := tc) (te := te) (ρ0 := ρ0) (fun _ => f x) [e x] (fun d hd => by
   have : d = e x := by simpa using hd
   rw [this]
   exact h x List.mem_cons_self)
  have ih := com_map e f xs fun y hy => h y (List.mem_cons_of_mem _ hy)
  rw [List.map_cons]
  simp only [comM] at h1 ⊢
  cases hg : g (e x) ρ0 with
  | ok ρ1 =>
   rw [hg] at h1
   simp only [bd_ok] at h1 ⊢
   cases ht : tc ρ1 with
   | ok b =>
    rw [ht] at h1
    simp only [bd_ok] at h1 ⊢
    cases b with
    | false =>
     simp only [Bool.false_eq_true, if_false] at h1 ⊢
     rw [ih]
     cases hf : f x with
     | none => simp only [List.filterMap_cons, hf]
     | some y => rw [List.filterMap_cons, hf] at h1; cases h1
    | true =>
     simp only [if_true] at h1 ⊢
     cases hx : te ρ1 with
     | ok y =>
      rw [hx] at h1
      simp only [bd_ok] at h1 ⊢
      rw [ih]
      cases hf : f x with
      | none => rw [List.filterMap_cons, hf] at h1; cases h1
      | some z =>
       rw [List.filterMap_cons, hf] at h1
       simp only [bd_ok, List.filterMap_cons, hf]
       cases h1
       rfl
     | ex c => rw [hx] at h1; cases h1
     | bad => rw [hx] at h1; cases h1
   | ex c => rw [ht] at h1; cases h1
   | bad => rw [ht] at h1; cases h1
  | ex c => rw [hg] at h1; cases h1
  | bad => rw [hg] at h1; cases h1
theorem com_rng {g : GM} {tc : Rho → M Bool} {te : Rho → M Dt} {ρ0 : Rho} {lo hi : Int} (f : Nat → Option Dt) (h : ∀ i, i < (hi - lo).toNat → stC g tc te ρ0 (.int (lo + (i : Nat))) = .ok (f i)) : comM g tc te ρ0 (rngD lo hi) = .ok ((List.range (hi - lo).toNat).filterMap f) :=
 com_map (fun (i : Nat) => .int (lo + (i : Nat))) f _ fun i hi' => h i (by simpa using hi')
theorem fm_if {α β : Type} (p : α → Bool) (e : α → β) : ∀ l : List α, (l.filterMap fun a => if p a = true then some (e a) else none) = (l.filter p).map e
 | [] => rfl
 | a :: l => by
  rw [List.filterMap_cons, List.filter_cons]
  cases h : p a <;> simp [h, fm_if p e l]
theorem fm_some {α β : Type} (e : α → β) : ∀ l : List α, (l.filterMap fun a => some (e a)) = l.map e
 | [] => rfl
 | a :: l => by rw [List.filterMap_cons, List.map_cons, fm_some e l]
def lv (l : List Nat) (i : Nat) : Nat := l.getD i 0
theorem at_lv {l : List Nat} {i : Nat} (h : i < l.length) : atZ l (i : Int) = some (lv l i) := by
 refine atZ_nat ?_
 simp [lv, h]
theorem at_lvI {l : List Nat} {k : Int} {i : Nat} (e : k = i) (h : i < l.length) : atZ l k = some (lv l i) := by rw [e]; exact at_lv h
def chT (l : List Nat) : List Nat := (List.range (l.length - 1)).filter fun i => !decide (lv l (i + 1) = lv l i)
def chE (l : List Nat) (i : Nat) : Dt := .tup [.int (1 + (i : Nat)), .str [lv l i], .str [lv l (i + 1)]]
theorem changes_eq {l : List Nat} (h : l.length ≤ 1000) : F_changes [.str l] = .ok (.lst ((chT l).map (chE l))) := by
 unfold F_changes B_changes
 exists go
 simp only [kCo]
 rw [com_rng (fun i => if (!decide (lv l (i + 1) = lv l i)) = true then some (chE l i) else none)]
 ·rw [fm_if, show ((l.length : Int) - 1).toNat = l.length - 1 by omega]
  have hl : (List.map (chE l) (List.filter (fun i => !decide (lv l (i + 1) = lv l i)) (List.range (l.length - 1)))).length ≤ 10000 := by
   rw [List.length_map]
   have := List.length_filter_le (fun i => !decide (lv l (i + 1) = lv l i)) (List.range (l.length - 1))
   simp at this
   omega
  rw [calm_ok, bd_ok, szL_ok hl]
  exists ev
  rfl
 ·intro i hi
  have e1 : (1 : Int) + (i : Nat) = ((i + 1 : Nat) : Int) := by omega
  have e2 : (1 : Int) + (i : Nat) - 1 = (i : Nat) := by omega
  have a1 := at_lvI (l := l) e1 (by omega)
  have a2 := at_lvI (l := l) e2 (by omega)
  exists evw, c_st, c_x1, startR, a1, a2
  by_cases hq : lv l (i + 1) = lv l i
  ·have : [lv l (i + 1)] = [lv l i] := by rw [hq]
   simp only [this, hq, decide_true, Bool.not_true]
   exists evw, c_x2f
   simp
  ·have : ¬ [lv l (i + 1)] = [lv l i] := by simpa using hq
   simp only [this, hq, decide_false, Bool.not_false]
   exists evw, c_x2t, a1, a2
   exists go
   simp [c_some, chE]
def upT (l : List Nat) : List Nat := (List.range (l.length - 1)).filter fun i => decide (lv l i = 48) && decide (lv l (i + 1) = 49)
theorem rises_eq {l : List Nat} (h : l.length ≤ 1000) : F_rises [.str l] = .ok (.lst ((upT l).map fun (i : Nat) => .int (1 + (i : Nat)))) := by
 unfold F_rises B_rises
 exists go
 rw [changes_eq h]
 exists go
 simp only [kCo]
 rw [com_map (chE l) (fun i => if (decide (lv l i = 48) && decide (lv l (i + 1) = 49)) = true then some (.int (1 + (i : Nat))) else none)]
 ·rw [fm_if]
  have e : (chT l).filter (fun i => decide (lv l i = 48) && decide (lv l (i + 1) = 49)) = upT l := by
   unfold chT upT
   rw [List.filter_filter]
   congr 1
   funext i
   by_cases h1 : lv l i = 48 <;> by_cases h2 : lv l (i + 1) = 49 <;> simp [h1, h2]
  rw [e]
  have hl : ((upT l).map fun (i : Nat) => Dt.int (1 + (i : Nat))).length ≤ 10000 := by
   rw [List.length_map]
   have := List.length_filter_le (fun i => decide (lv l i = 48) && decide (lv l (i + 1) = 49)) (List.range (l.length - 1))
   simp at this
   unfold upT
   omega
  rw [calm_ok, bd_ok, szL_ok hl]
  exists ev
 ·intro i hi
  exists evw, c_st, c_x1, startR, chE
  by_cases h1 : lv l i = 48
  ·have : [lv l i] = [48] := by rw [h1]
   simp only [this, h1, decide_true, Bool.true_and]
   exists ev
   by_cases h2 : lv l (i + 1) = 49
   ·have : [lv l (i + 1)] = [49] := by rw [h2]
    simp only [this, h2, decide_true, if_true]
    exists evw, c_x2t, c_some
   ·have : ¬ [lv l (i + 1)] = [49] := by simpa using h2
    simp only [this, h2, decide_false]
    exists evw, c_x2f
    simp
  ·have : ¬ [lv l i] = [48] := by simpa using h1
   simp only [this, h1, decide_false, Bool.false_and]
   exists evw, c_x2f
   simp
def up (l : List Nat) (i : Nat) : Bool := decide (lv l i = 48) && decide (lv l (i + 1) = 49)
theorem upT_eq (l : List Nat) : upT l = (List.range (l.length - 1)).filter (up l) := rfl
theorem upT_len (l : List Nat) : (upT l).length ≤ l.length := by
 have := List.length_filter_le (up l) (List.range (l.length - 1))
 simp at this
 rw [upT_eq]
 omega
theorem bools_map {α : Type} (f : α → Bool) : ∀ l : List α, bools (l.map fun a => Dt.bl (f a)) = some (l.map f)
 | [] => rfl
 | a :: l => by simp [bools, bools_map f l]
theorem one_len {ls : List (List Nat)} (hl : ls.length ≤ 1000) : F_of_one_length [.lst (ls.map Dt.str)] = .ok (.bl (ls.all fun l => decide (l.length = (ls.headD []).length))) := by
 unfold F_of_one_length B_of_one_length
 exists ev
 simp only [kCo]
 rw [com_map Dt.str (fun l => some (.bl (decide (l.length = (ls.headD []).length))))]
 ·rw [fm_some, calm_ok, bd_ok, szL_ok (by simp; omega)]
  exists ev
  rw [bools_map]
  exists ev
  rw [List.all_map]
  rfl
 ·intro l hm
  have a0 : atZ (ls.map Dt.str) 0 = some (.str (ls.headD [])) := by
   cases ls with
   | nil => cases hm
   | cons x xs => exact atZ_nat (n := 0) rfl
  exists evw, c_st, c_x1, startR, a0, c_x2t, c_some
  have e : decide (((l.length : Nat) : Int) = (((ls.headD []).length : Nat) : Int)) = decide (l.length = (ls.headD []).length) := by
   exact decide_eq_decide.mpr ⟨fun z => by omega, fun z => by omega⟩
  rw [e]
theorem unlike_ok {ls : List (List Nat)} (hl : ls.length ≤ 1000) (h : ∀ l ∈ ls, l.length = (ls.headD []).length) : F_refuse_unlike [.lst (ls.map Dt.str)] = .ok .non := by
 unfold F_refuse_unlike B_refuse_unlike
 exists ev
 rw [one_len hl]
 have : (ls.all fun l => decide (l.length = (ls.headD []).length)) = true := by
  rw [List.all_eq_true]
  intro l hm
  simpa using h l hm
 rw [this]
 exists ev
theorem unlike_two {a b : List Nat} (h : a.length = b.length) : F_refuse_unlike [.lst [.str a, .str b]] = .ok .non := unlike_ok (ls := [a, b]) (by simp) (by simp [h])
theorem strs_one {α : Type} (f : α → Nat) : ∀ l : List α, strsM (l.map fun i => Dt.str [f i]) = some (l.map fun i => [f i])
 | [] => rfl
 | a :: l => by simp [strsM, strs_one f l]
theorem flat_one {α : Type} (f : α → Nat) : ∀ l : List α, (l.map fun i => [f i]).flatten = l.map f
 | [] => rfl
 | a :: l => by simp [flat_one f l]
def cn (l : List Nat) (i : Nat) : Nat := ((List.range (i - 1)).filter (up l)).length
def hN (w b : List Nat) (c : Nat) : Nat → Nat
 | 0 => c
 | t + 1 => if up b t = true then lv w t else hN w b c t
def hL (w b : List Nat) (c : Nat) : List Nat := (List.range b.length).map (hN w b c)
theorem digat_eq {n p : Nat} : F_digit_at [.int (n : Nat), .int (p : Nat)] = .ok (.str [48 + n / 2 ^ p % 2]) := by
 unfold F_digit_at B_digit_at
 exists evw, isNon
 exists go
 have e : ((n : Nat) : Int) / 2 ^ (((p : Nat) : Int).toNat) = ((n / 2 ^ p : Nat) : Int) := by
  rw [Int.toNat_natCast]
  norm_cast
 rw [e]
 try rw [ck_of (Int.natCast_nonneg _)]
 exists ev
 have e2 : ((n / 2 ^ p : Nat) : Int) % 2 = ((n / 2 ^ p % 2 : Nat) : Int) := by norm_cast
 have q0 : 0 ≤ ((n / 2 ^ p % 2 : Nat) : Int) ∧ ((n / 2 ^ p % 2 : Nat) : Int) ≤ 9 := by omega
 rw [e2, ck_of q0]
 exists ev
 rw [Int.toNat_natCast]
theorem dep_strs (ls : List Nat) : dep (.lst (sgD ls)) ≤ 50 := by
 have : deps (sgD ls) = 0 := by
  induction ls with
  | nil => rfl
  | cons c r ih => simp only [sgD, List.map_cons, deps, dep] at ih ⊢; rw [ih]; rfl
 simp only [dep, this]
 omega
theorem cutZ_mid {α : Type} (l : List α) {k k' : Int} {i j : Nat} (e : k = i) (e' : k' = j) (h : j ≤ l.length) : cutZ l (some k) (some k') = (l.drop i).take (j - i) := by
 subst e e'
 unfold cutZ
 simp only [sIz]
 rw [if_neg (by omega), if_neg (by omega), Int.toNat_natCast, Int.toNat_natCast, Nat.min_eq_left h]
 by_cases hi : i ≤ l.length
 ·rw [Nat.min_eq_left hi]
 ·rw [Nat.min_eq_right (by omega), List.drop_of_length_le (Nat.le_refl _), List.drop_of_length_le (by omega)]
  simp
end Pg
namespace L2
def oShl : Dt → Dt → M Dt
 | .int a, .int b => if 0 ≤ b ∧ b ≤ 1000 ∧ a.natAbs < 2 ^ 64 then .ok (.int (a * 2 ^ b.toNat)) else .bad
 | _, _ => .bad
def intsD : List Dt → Option (List Int)
 | [] => some []
 | .int i :: r => (intsD r).map (i :: ·)
 | _ => none
def sumR : Option (List Int) → M Dt
 | some ns => if ns.length ≤ 1000 ∧ ns.all (fun n => decide (-1000000 ≤ n) && decide (n ≤ 1000000)) = true then .ok (.int ns.sum) else .bad
 | none => .bad
def bSum : List Dt → M Dt
 | [.lst ds] => sumR (intsD ds)
 | _ => .bad
def gtI (a b : Int) : Int := if b > a then b else a
def maxR : Option (List Int) → M Dt
 | some (p :: r) => .ok (.int (r.foldl gtI p))
 | _ => .bad
def maxDM (l _d : Dt) : M Dt := match l with
 | .lst ds => maxR (intsD ds)
 | _ => .bad
def lcM (l : List Nat) : Option (List (List Nat)) → M Dt
 | some ls => .ok (.int (ls.count l : Nat))
 | none => .bad
def lcA (ds : List Dt) : List Dt → M Dt
 | [.str l] => lcM l (strsM ds)
 | _ => .bad
def mLCnt : Sel
 | .lst ds => some (lcA ds)
 | _ => none
def insT (x : List Nat) : List (List Nat) → List (List Nat)
 | [] => [x]
 | y :: l => if y < x then y :: insT x l else x :: y :: l
def sortT : List (List Nat) → List (List Nat)
 | [] => []
 | x :: l => insT x (sortT l)
def sortSM : Option (List (List Nat)) → M Dt
 | some ls => .ok (.lst ((sortT ls.eraseDups).map Dt.str))
 | none => .bad
def oSortSet : Dt → M Dt
 | .lst ds => if ds.length ≤ 60 then sortSM (strsM ds) else .bad
 | _ => .bad
theorem insT_perm (x : List Nat) : ∀ l, (insT x l).Perm (x :: l)
 | [] => .refl _
 | y :: l => by
  unfold insT
  split
  ·exact ((insT_perm x l).cons y).trans (.swap ..)
  ·exact .refl _
theorem sortT_perm : ∀ l, (sortT l).Perm l
 | [] => .refl _
 | x :: l => (insT_perm x _).trans ((sortT_perm l).cons x)
abbrev LeT (a b : List Nat) : Prop := ¬ b < a
theorem leT_trans {a b c : List Nat} (h1 : LeT a b) (h2 : LeT b c) : LeT a c := by
 intro z
 by_cases y : b < a
 ·exact h1 y
 ·by_cases x : a = b
  ·subst x; exact h2 z
  ·have hab : a < b := by
    rcases Decidable.em (a < b) with q | q
    ·exact q
    ·exact absurd (List.le_antisymm (List.not_lt.mp y) (List.not_lt.mp q)) x
   exact h2 (List.lt_trans z hab)
theorem insT_sort (x : List Nat) : ∀ l : List (List Nat), l.Pairwise LeT → (insT x l).Pairwise LeT
 | [], _ => List.pairwise_singleton ..
 | y :: l, h => by
  obtain ⟨h1, h2⟩ := List.pairwise_cons.mp h
  unfold insT
  split
  ·rename_i hyx
   refine List.pairwise_cons.mpr ⟨fun z hz => ?_, insT_sort x l h2⟩
   rcases List.mem_cons.mp ((insT_perm x l).mem_iff.mp hz) with rfl | hz
   ·exact fun q => List.lt_irrefl _ (List.lt_trans hyx q)
   ·exact h1 z hz
  ·rename_i hyx
   refine List.pairwise_cons.mpr ⟨fun z hz => ?_, h⟩
   rcases List.mem_cons.mp hz with rfl | hz
   ·exact hyx
   ·exact leT_trans hyx (h1 z hz)
theorem sortT_sort : ∀ l : List (List Nat), (sortT l).Pairwise LeT
 | [] => .nil
 | x :: l => insT_sort x _ (sortT_sort l)
theorem sort_one : ∀ {a b : List (List Nat)}, a.Pairwise LeT → b.Pairwise LeT → a.Perm b → a = b
 | [], b, _, _, p => (List.nil_perm.mp p).symm
 | x :: a, [], _, _, p => by cases (List.perm_nil.mp p)
 | x :: a, y :: b, h1, h2, p => by
  obtain ⟨a1, a2⟩ := List.pairwise_cons.mp h1
  obtain ⟨b1, b2⟩ := List.pairwise_cons.mp h2
  have e : x = y := by
   have hx : x ∈ y :: b := p.mem_iff.mp List.mem_cons_self
   have hy : y ∈ x :: a := p.mem_iff.mpr List.mem_cons_self
   rcases List.mem_cons.mp hx with z | z
   ·exact z
   ·rcases List.mem_cons.mp hy with w | w
    ·exact w.symm
    ·have q1 := b1 x z
     have q2 := a1 y w
     exact List.le_antisymm (List.not_lt.mp q2) (List.not_lt.mp q1)
  subst e
  rw [sort_one a2 b2 (List.perm_cons x |>.mp p)]
def oRepl (a b : Nat) : Dt → M Dt
 | .str l => if l.length ≤ 1000 then .ok (.str (l.map fun k => if k = a then b else k)) else .bad
 | _ => .bad
def oLzip : Dt → Dt → M Dt
 | .lst a, .lst b => if a.length = b.length then .ok (.lst (zipD a b)) else .bad
 | _, _ => .bad
def staysM : M Dt → M Dt
 | .ok (.lst ds) => if ds.length ≤ 10000 ∧ dep (.lst ds) ≤ 50 then .ok (.bl true) else .bad
 | _ => .bad
def pStays (fr : List Nat) (f : Rho → M Dt) : Rho → M Dt := fun ρ => staysM (f (startR 0 fr ρ))
theorem stays_ok {fr : List Nat} {f : Rho → M Dt} {ρ : Rho} {ds : List Dt} (h : f (startR 0 fr ρ) = .ok (.lst ds)) (hl : ds.length ≤ 10000) (hd : dep (.lst ds) ≤ 50) : pStays fr f ρ = .ok (.bl true) := by
 unfold pStays staysM
 rw [h]
 exact if_pos ⟨hl, hd⟩
end L2
namespace Pg
open L2
section
variable {x y z : Dt} {ds : List Dt} {l : List Nat} {ρ : Rho} {s : SM} {cs : List Nat} {i k : Nat}
def kN1 (y : Dt) (a : List Dt) : M (List Dt) := (sqM y).bd (kZ2 a)
theorem a_zn : zip2N [x, y] = (sqM x).bd (kN1 y) := .trans rfl rfl
theorem a_kN1 : kN1 y ds = (sqM y).bd (kZ2 ds) := .trans rfl rfl
theorem a_sqL : sqM (.lst ds) = .ok ds := .trans rfl rfl
theorem a_en : enumN [x] = (sqM x).bd kEn := .trans rfl rfl
end
theorem e1 (a b : Nat) : ([a] = [b]) = (a = b) := by simp
theorem tl_ok {n : Int} (h0 : 1 ≤ n) (h1 : n ≤ 12) : F_refuse_too_long [.int n] = .ok .non := by
 unfold F_refuse_too_long B_refuse_too_long
 have g0 : (1 ≤ n) = True := by simpa using h0
 have g1 : (n ≤ 12) = True := by simpa using h1
 exists evw, g0, g1
theorem strs_all : ∀ l : List (List Nat), strsM (l.map Dt.str) = some l
 | [] => rfl
 | a :: l => by simp [strsM, strs_all l]
theorem zip_sg {w o : List Nat} (h : w.length = o.length) : zipD (sgD w) (sgD o) = (List.range w.length).map fun i => Dt.tup [.str [lv w i], .str [lv o i]] := by
 apply List.ext_getElem?
 intro i
 by_cases hi : i < w.length
 ·have ho : i < o.length := by omega
  simp [zipD, sgD, lv, hi, ho, List.getElem?_zip_eq_some]
 ·rw [List.getElem?_eq_none (by simp [zipD, sgD]; omega), List.getElem?_eq_none (by simp; omega)]
def Lv3 (l : List Nat) : Prop := ∀ c ∈ l, c = 48 ∨ c = 49 ∨ c = 120
end Pg
namespace K96
open L2 Pg
def B_value_at : SM := (sSeq (sAsg (pComp 1 [1] (iOf (getV 0)) (gNm 0) tYs (p2 oIx (getV 0) (getV 1))) (gNm 2))
 (sSeq (sIf (tOf (p2 oIn (pC (.str [120])) (getV 2))) (sRet (pC .non)) sSkip)
 (sRet (pCall bSum (aCons (pComp 2 [] (iBy enumN (aCons (getV 2) aNil)) (gTp 2 (gZc (gNm 0) (gZc (gNm 1) gZn))) tYs (p2 oShl (pCall bIntD (aCons (getV 1) aNil)) (getV 0))) aNil)))))
def F_value_at : List Dt → M Dt := fnM 2 1 B_value_at
def B_common_length : SM := (sSeq (sDrop (pCall F_refuse_unlike (aCons (getV 0) aNil)))
 (sRet (p2 maxDM (pComp 1 [] (iOf (getV 0)) (gNm 0) tYs (pCall bLen (aCons (getV 0) aNil))) (pC (.int 0)))))
def F_common_length : List Dt → M Dt := fnM 1 0 B_common_length
def B_values_of : SM := (sRet (pComp 1 [0] (iBy rng1M (aCons (pCall F_common_length (aCons (getV 0) aNil)) aNil)) (gNm 0) tYs (pCall F_value_at (aCons (getV 1) (aCons (getV 0) aNil)))))
def F_values_of : List Dt → M Dt := fnM 1 0 B_values_of
def B_value_bounds : SM := (sSeq (sAsg (pCall F_values_of (aCons (pComp 1 [] (iOf (getV 0)) (gNm 0) tYs (p1 (oRepl 120 48) (getV 0))) aNil)) (gNm 1))
 (sSeq (sAsg (pCall F_values_of (aCons (pComp 1 [] (iOf (getV 0)) (gNm 0) tYs (p1 (oRepl 120 49) (getV 0))) aNil)) (gNm 2))
 (sRet (p2 oLzip (getV 1) (getV 2)))))
def F_value_bounds : List Dt → M Dt := fnM 1 2 B_value_bounds
def B_is_change : SM := (sRet (pAn (p2 oNotIn (pC .non) (pTup (aCons (getV 0) (aCons (getV 1) aNil)))) (p2 oNe (getV 0) (getV 1))))
def F_is_change : List Dt → M Dt := fnM 2 0 B_is_change
def B_value_changes : SM := (sSeq (sAsg (pCall F_values_of (aCons (getV 0) aNil)) (gNm 1))
 (sRet (pComp 1 [1] (iBy rng2M (aCons (pC (.int 1)) (aCons (pCall bLen (aCons (getV 1) aNil)) aNil))) (gNm 0) (tOf (pCall F_is_change (aCons (p2 oIx (getV 1) (p2 oSub (getV 0) (pC (.int 1)))) (aCons (p2 oIx (getV 1) (getV 0)) aNil)))) (getV 0))))
def F_value_changes : List Dt → M Dt := fnM 1 1 B_value_changes
def B_can_be_made : SM := (sRet (pOr (p2 oIs (getV 0) (pC .non)) (p2 oEq (p2 oShr (getV 0) (getV 1)) (pC (.int 0)))))
def F_can_be_made : List Dt → M Dt := fnM 2 0 B_can_be_made
def B_of_values : SM := (sSeq (sDrop (pCall F_refuse_too_long (aCons (pCall bLen (aCons (getV 0) aNil)) aNil)))
 (sSeq (sIf (tNt (tOf (pChain oLe oLe (pC (.int 1)) (getV 1) (pC (.int 6))))) (sRz 4 (uInt (pC (.int 6)))) sSkip)
 (sSeq (sIf (tNt (tOf (pCall bAll (aCons (pComp 1 [1] (iOf (getV 0)) (gNm 0) tYs (pCall F_can_be_made (aCons (getV 0) (aCons (getV 1) aNil)))) aNil)))) (sRz 4 (uInt (getV 1))) sSkip)
 (sRet (pComp 1 [0] (iBy rng1M (aCons (getV 1) aNil)) (gNm 0) tYs (pCall F_digit_wave (aCons (getV 1) (aCons (getV 0) aNil))))))))
def F_of_values : List Dt → M Dt := fnM 2 0 B_of_values
def B_windows : SM := (sSeq (sIf (tNt (tOf (pChain oLe oLe (pC (.int 1)) (getV 1) (pCall bLen (aCons (getV 0) aNil))))) (sRz 5 (uInt (getV 1))) sSkip)
 (sRet (pComp 1 [0, 1] (iBy rng1M (aCons (p2 oAdd (p2 oSub (pCall bLen (aCons (getV 0) aNil)) (getV 1)) (pC (.int 1))) aNil)) (gNm 0) tYs (pSlice (getV 1) (pPart (some (getV 0))) (pPart (some (p2 oAdd (getV 0) (getV 2))))))))
def F_windows : List Dt → M Dt := fnM 2 0 B_windows
def B_window_counts : SM := (sSeq (sAsg (pCall F_windows (aCons (getV 0) (aCons (getV 1) aNil))) (gNm 2))
 (sRet (pComp 1 [2] (iOf (p1 oSortSet (getV 2))) (gNm 0) tYs (pTup (aCons (getV 0) (aCons (pMeth mLCnt (getV 1) (aCons (getV 0) aNil)) aNil))))))
def F_window_counts : List Dt → M Dt := fnM 2 1 B_window_counts
def B_count_within : SM := (sRet (pCall bLen (aCons (pComp 1 [1, 2] (iOf (getV 0)) (gNm 0) (tOf (pChain oLe oLt (getV 1) (getV 0) (getV 2))) (getV 0)) aNil)))
def F_count_within : List Dt → M Dt := fnM 3 0 B_count_within
def B_changes_between : SM := (sSeq (sDrop (pCall F_refuse_unlike (aCons (pLst (aCons (getV 0) (aCons (getV 1) aNil))) aNil)))
 (sSeq (sAsg (pComp 3 [] (iOf (pCall F_changes (aCons (getV 0) aNil))) (gTp 3 (gZc (gNm 0) (gZc (gNm 1) (gZc (gNm 2) gZn)))) tYs (getV 0)) (gNm 2))
 (sSeq (sAsg (pCall F_rises (aCons (getV 1) aNil)) (gNm 3))
 (sRet (pComp 2 [2] (iBy zip2N (aCons (p2 oAdd (pLst (aCons (pC (.int 0)) aNil)) (getV 3)) (aCons (p2 oAdd (getV 3) (pLst (aCons (pCall bLen (aCons (getV 0) aNil)) aNil))) aNil))) (gTp 2 (gZc (gNm 0) (gZc (gNm 1) gZn))) tYs (pCall F_count_within (aCons (getV 2) (aCons (getV 0) (aCons (getV 1) aNil)))))))))
def F_changes_between : List Dt → M Dt := fnM 2 2 B_changes_between
def B_all_high : SM := (sRet (pComp 1 [0] (iBy rng1M (aCons (pCall F_common_length (aCons (getV 0) aNil)) aNil)) (gNm 0) (tOf (pCall bAll (aCons (pComp 1 [0] (iOf (getV 1)) (gNm 0) tYs (p2 oEq (p2 oIx (getV 0) (getV 1)) (pC (.str [49])))) aNil))) (getV 0)))
def F_all_high : List Dt → M Dt := fnM 1 0 B_all_high
def S_law_10 : SM := (sRel 4 (sRet (pAn (p2 oEq (getV 4) (pRep (aCons (pC (.bl true)) aNil) (pC (.int 8)))) (pAn (p2 oEq (getV 1) (getV 2)) (p2 oEq (getV 3) (pLst (aCons (pC (.int 3)) (aCons (pC .non) (aCons (pC (.int 0)) aNil)))))))))
def S_law_9 : SM := (sSeq (sAppend 4 (pStays [1] (pCall F_all_high (aCons (getV 0) aNil)))) S_law_10)
def S_law_8 : SM := (sSeq (sAppend 4 (pStays [1] (pCall F_changes_between (aCons (p2 oIx (getV 0) (pC (.int 0))) (aCons (p2 oIx (getV 0) (pC (.int 1))) aNil))))) S_law_9)
def S_law_7 : SM := (sSeq (sAppend 4 (pStays [1] (pCall F_window_counts (aCons (p2 oIx (getV 0) (pC (.int 0))) (aCons (pC (.int 2)) aNil))))) S_law_8)
def S_law_6 : SM := (sSeq (sAppend 4 (pStays [1] (pCall F_windows (aCons (p2 oIx (getV 0) (pC (.int 0))) (aCons (pC (.int 2)) aNil))))) S_law_7)
def S_law_5 : SM := (sSeq (sAppend 4 (pStays [3] (pCall F_of_values (aCons (getV 0) (aCons (pC (.int 2)) aNil))))) S_law_6)
def S_law_4 : SM := (sSeq (sAppend 4 (pStays [1] (pCall F_value_changes (aCons (getV 0) aNil)))) S_law_5)
def S_law_3 : SM := (sSeq (sAppend 4 (pStays [1] (pCall F_value_bounds (aCons (getV 0) aNil)))) S_law_4)
def S_law_2 : SM := (sSeq (sOwn 4 (aCons (pStays [1] (pCall F_values_of (aCons (getV 0) aNil))) aNil)) S_law_3)
def S_law_1 : SM := (sSeq (sAsg (pTup (aCons (pCall bList (aCons (getV 1) aNil)) (aCons (pLst (aCons (pC (.int 3)) (aCons (pC .non) (aCons (pC (.int 0)) aNil)))) aNil))) (gTp 2 (gZc (gNm 2) (gZc (gNm 3) gZn)))) S_law_2)
def B_law : SM := (sSeq (sAsg (pComp 1 [0] (iBy rng1M (aCons (pC (.int 3)) aNil)) (gNm 0) tYs (pCall F_L_wave (aCons (getV 1) (aCons (p2 oAdd (pC (.int 10)) (p2 oMul (pC (.int 40)) (getV 0))) (aCons (pC (.int 9)) (aCons (pC (.str [48, 49, 120])) aNil)))))) (gNm 1)) S_law_1)
def F_law : List Dt → M Dt := fnM 1 4 B_law
theorem a_shl {a b : Int} : oShl (.int a) (.int b) = ck (0 ≤ b ∧ b ≤ 1000 ∧ a.natAbs < 2 ^ 64) (.ok (.int (a * 2 ^ b.toNat))) := by
 unfold ck
 rfl
def oD : Option Nat → Dt
 | none => .non
 | some v => .int (v : Nat)
def dgo (o : Option Nat) (p : Nat) : Nat := match o with
 | none => 120
 | some v => 48 + v / 2 ^ p % 2
def wv (ns : List (Option Nat)) (p : Nat) : List Nat := ns.map fun o => dgo o p
def bus (m : Nat) (ns : List (Option Nat)) : List (List Nat) := (List.range m).map (wv ns)
theorem digat_is {o : Option Nat} {p : Nat} : F_digit_at [oD o, .int (p : Nat)] = .ok (.str [dgo o p]) := by
 cases o with
 | none => rfl
 | some v => exact digat_eq
theorem digw_is {ns : List (Option Nat)} {p : Nat} {c : Dt} (h : seqM c = .ok (ns.map oD)) (hl : ns.length ≤ 1000) : F_digit_wave [c, .int (p : Nat)] = .ok (.str (wv ns p)) := by
 unfold F_digit_wave B_digit_wave
 exists evw, h
 simp only [kCo]
 rw [com_map oD (fun o => some (.str [dgo o p]))]
 ·rw [fm_some, calm_ok, bd_ok, szL_ok (by simp; omega)]
  exists evw, strs_one, flat_one
  rw [szS_ok (by simp; omega)]
  exists ev
  rfl
 ·intro o ho
  exists evw, c_st, c_x1, startR, c_x2t, digat_is, c_some
theorem can_is {o : Option Nat} {m : Nat} (hm : m ≤ 100) (h : ∀ v, o = some v → v < 2 ^ m) : F_can_be_made [oD o, .int (m : Nat)] = .ok (.bl true) := by
 cases o with
 | none => rfl
 | some v =>
  have hv := h v rfl
  have e : ((v : Nat) : Int) / 2 ^ (m : Int).toNat = 0 := by
   rw [Int.toNat_natCast]
   apply Int.ediv_eq_zero_of_lt
   ·omega
   ·exact_mod_cast hv
  unfold F_can_be_made B_can_be_made oD
  have i1 : isNon (.int (v : Nat)) = false := rfl
  exists evw, i1
  rw [ck_of (by omega)]
  exists evw, e
theorem ofv_is {ns : List (Option Nat)} {m : Nat} {c : Dt} (h : seqM c = .ok (ns.map oD)) (hb : bLen [c] = .ok (.int (ns.length : Nat))) (h1 : 1 ≤ ns.length) (h2 : ns.length ≤ 12) (m1 : 1 ≤ m) (m2 : m ≤ 6) (hv : ∀ v, some v ∈ ns → v < 2 ^ m) :
  F_of_values [c, .int (m : Nat)] = .ok (.lst ((bus m ns).map Dt.str)) := by
 have t := tl_ok (n := (ns.length : Nat)) (by omega) (by omega)
 have d1 : decide ((1 : Int) ≤ (m : Int)) = true := decide_eq_true (by omega)
 have d2 : decide ((m : Int) ≤ 6) = true := decide_eq_true (by omega)
 unfold F_of_values B_of_values
 exists evw, hb, t, d1, d2, h
 simp only [kCo]
 rw [com_map oD (fun _ => some (.bl true))]
 ·rw [fm_some, calm_ok, bd_ok, szL_ok (by simp; omega)]
  exists evw, bools_map
  rw [show (List.map (fun _ : Option Nat => true) ns).all id = true by simp]
  exists ev
  rw [ck_of (by omega)]
  exists ev
  simp only [kCo]
  rw [com_rng (fun p => some (.str (wv ns p)))]
  ·rw [fm_some, calm_ok, bd_ok, szL_ok (by simp; omega)]
   exists ev
   rw [show ((m : Int) - 0).toNat = m by omega]
   simp [bus]
  ·intro p hp
   have e0 : (0 : Int) + (p : Nat) = (p : Nat) := by omega
   exists evw, c_st, c_x1, startR, c_x2t, e0, digw_is (p := p) h (by omega), c_some
 ·intro o ho
  exists evw, c_st, c_x1, startR, c_x2t, can_is (o := o) (m := m) (by omega) (fun v e => hv v (e ▸ ho)), c_some
def vl (m : Nat) : Option Nat → Option Nat := Option.map (· % 2 ^ m)
theorem enum_rng (e : Nat → Dt) (m : Nat) : enumD ((List.range m).map e) = (List.range m).map fun p => Dt.tup [.int (p : Nat), e p] := by
 unfold enumD
 apply List.ext_getElem?
 intro i
 by_cases hi : i < m
 ·simp [List.getElem?_zipWith, hi]
 ·rw [List.getElem?_eq_none (by simp; omega), List.getElem?_eq_none (by simp; omega)]
theorem int_b {b : Nat} (h : b < 2) : bIntD [.str [48 + b]] = .ok (.int (b : Nat)) := by
 match b, h with
 | 0, _ => rfl
 | 1, _ => rfl
theorem ints_map {α : Type} (f : α → Int) : ∀ l : List α, intsD (l.map fun a => Dt.int (f a)) = some (l.map f)
 | [] => rfl
 | a :: l => by
  show (intsD (l.map fun a => Dt.int (f a))).map (f a :: ·) = _
  rw [ints_map f l]
  rfl
theorem sum_cast (f : Nat → Nat) : ∀ l : List Nat, (l.map fun p => ((f p : Nat) : Int)).sum = ((l.map f).sum : Nat)
 | [] => rfl
 | a :: l => by
  rw [List.map_cons, List.sum_cons, sum_cast f l, List.map_cons, List.sum_cons]
  omega
theorem small_ok {y : Nat} (h : y ≤ 1 * 2 ^ 6) : (decide (-1000000 ≤ ((y : Nat) : Int)) && decide (((y : Nat) : Int) ≤ 1000000)) = true := by
 simp
 omega
theorem one_lenT {ls : List (List Nat)} (hl : ls.length ≤ 1000) : F_of_one_length [.tup (ls.map Dt.str)] = .ok (.bl (ls.all fun l => decide (l.length = (ls.headD []).length))) := by
 unfold F_of_one_length B_of_one_length
 exists ev
 simp only [kCo]
 rw [com_map Dt.str (fun l => some (.bl (decide (l.length = (ls.headD []).length))))]
 ·rw [fm_some, calm_ok, bd_ok, szL_ok (by simp; omega)]
  exists ev
  rw [bools_map]
  exists ev
  rw [List.all_map]
  rfl
 ·intro l hm
  have a0 : atZ (ls.map Dt.str) 0 = some (.str (ls.headD [])) := by
   cases ls with
   | nil => cases hm
   | cons x xs => exact atZ_nat (n := 0) rfl
  exists evw, c_st, c_x1, startR, a0, c_x2t, c_some
  have e : decide (((l.length : Nat) : Int) = (((ls.headD []).length : Nat) : Int)) = decide (l.length = (ls.headD []).length) := by
   exact decide_eq_decide.mpr ⟨fun z => by omega, fun z => by omega⟩
  rw [e]
theorem unlike_okT {ls : List (List Nat)} (hl : ls.length ≤ 1000) (h : ∀ l ∈ ls, l.length = (ls.headD []).length) : F_refuse_unlike [.tup (ls.map Dt.str)] = .ok .non := by
 unfold F_refuse_unlike B_refuse_unlike
 exists ev
 rw [one_lenT hl]
 have : (ls.all fun l => decide (l.length = (ls.headD []).length)) = true := by
  rw [List.all_eq_true]
  intro l hm
  simpa using h l hm
 rw [this]
 exists ev
theorem gt_same (c : Int) : ∀ l : List Int, (∀ x ∈ l, x = c) → l.foldl gtI c = c
 | [], _ => rfl
 | x :: l, h => by
  have hx := h x (List.mem_cons_self ..)
  rw [List.foldl_cons, hx]
  have : gtI c c = c := by unfold gtI; simp
  rw [this]
  exact gt_same c l fun y hy => h y (List.mem_cons_of_mem _ hy)
def wsD (t : Bool) (ws : List (List Nat)) : Dt := if t then .tup (ws.map Dt.str) else .lst (ws.map Dt.str)
theorem common_is {t : Bool} {ws : List (List Nat)} {L : Nat} (h0 : ws ≠ []) (hl : ws.length ≤ 100) (h : ∀ w ∈ ws, w.length = L) : F_common_length [wsD t ws] = .ok (.int (L : Nat)) := by
 have hh : ∀ l ∈ ws, l.length = (ws.headD []).length := by
  cases ws with
  | nil => exact absurd rfl h0
  | cons a r => intro l hm; rw [h l hm]; exact (h a List.mem_cons_self).symm
 have hm : maxDM (.lst (ws.map fun w => Dt.int (w.length : Nat))) (.int 0) = .ok (.int (L : Nat)) := by
  show maxR (intsD _) = _
  rw [ints_map (fun w : List Nat => ((w.length : Nat) : Int))]
  cases ws with
  | nil => exact absurd rfl h0
  | cons a r =>
   show M.ok (Dt.int ((r.map fun w => ((w.length : Nat) : Int)).foldl gtI ((a.length : Nat) : Int))) = _
   rw [h a List.mem_cons_self, gt_same]
   intro x hx
   obtain ⟨w, hw, rfl⟩ := List.mem_map.mp hx
   rw [h w (List.mem_cons_of_mem _ hw)]
 unfold F_common_length B_common_length
 cases t with
 | true =>
  simp only [wsD, if_true]
  exists evw, unlike_okT (ls := ws) (by omega) hh
  simp only [kCo]
  rw [com_map Dt.str (fun w => some (.int (w.length : Nat)))]
  ·rw [fm_some, calm_ok, bd_ok, szL_ok (by simp; omega)]
   exists evw, hm
  ·intro w hw
   exists evw, c_st, c_x1, startR, c_x2t, c_some
 | false =>
  simp only [wsD, Bool.false_eq_true, if_false]
  exists evw, unlike_ok (ls := ws) (by omega) hh
  simp only [kCo]
  rw [com_map Dt.str (fun w => some (.int (w.length : Nat)))]
  ·rw [fm_some, calm_ok, bd_ok, szL_ok (by simp; omega)]
   exists evw, hm
  ·intro w hw
   exists evw, c_st, c_x1, startR, c_x2t, c_some
theorem eq_self {d : Dt} (h : dep d ≤ 50) : oEq d d = .ok (.bl true) := by rw [a_eq, ck_of h, eqD_refl]
theorem a_repl {a b : Nat} {l : List Nat} : oRepl a b (.str l) = ck (l.length ≤ 1000) (.ok (.str (l.map fun k => if k = a then b else k))) := .trans rfl rfl
def lvs (ws : List (List Nat)) (i : Nat) : List Nat := ws.map fun w => lv w i
def nOf : List Nat → Nat
 | [] => 0
 | c :: r => (c - 48) + 2 * nOf r
def vOf (l : List Nat) : Option Nat := if 120 ∈ l then none else some (nOf l)
abbrev Bits (l : List Nat) : Prop := ∀ c ∈ l, c = 48 ∨ c = 49
theorem nOf_sum : ∀ l : List Nat, ((List.range l.length).map fun p => (l.getD p 48 - 48) * 2 ^ p).sum = nOf l
 | [] => rfl
 | c :: r => by
  rw [List.length_cons, List.range_succ_eq_map, List.map_cons, List.sum_cons, List.map_map]
  have e : ((fun p => ((c :: r).getD p 48 - 48) * 2 ^ p) ∘ Nat.succ) = fun p => 2 * ((r.getD p 48 - 48) * 2 ^ p) := by
   funext p
   simp only [Function.comp, List.getD_cons_succ, Nat.pow_succ]
   rw [← Nat.mul_assoc, Nat.mul_comm _ 2]
  rw [e, show (fun p => 2 * ((r.getD p 48 - 48) * 2 ^ p)) = (fun x => 2 * x) ∘ (fun p => (r.getD p 48 - 48) * 2 ^ p) from rfl, ← List.map_map]
  have hs : ∀ l : List Nat, (l.map fun x => 2 * x).sum = 2 * l.sum := fun l => by
   induction l with
   | nil => rfl
   | cons a l ih => rw [List.map_cons, List.sum_cons, List.sum_cons, ih]; omega
  rw [hs, nOf_sum r]
  simp [nOf]
theorem bits_of {l : List Nat} (h : Lv3 l) (hx : 120 ∉ l) : Bits l := fun c hc => by
 rcases h c hc with e | e | e
 ·exact .inl e
 ·exact .inr e
 ·subst e; exact absurd hc hx
theorem lv3_at {w : List Nat} {i : Nat} (h : Lv3 w) (hi : i < w.length) : lv w i = 48 ∨ lv w i = 49 ∨ lv w i = 120 := h _ (by unfold lv; rw [List.getD_eq_getElem?_getD, List.getElem?_eq_getElem hi]; exact List.getElem_mem hi)
theorem lvs_lv3 {ws : List (List Nat)} {i L : Nat} (h3 : ∀ w ∈ ws, Lv3 w) (h : ∀ w ∈ ws, w.length = L) (hi : i < L) : Lv3 (lvs ws i) := fun c hc => by
 obtain ⟨w, hw, rfl⟩ := List.mem_map.mp hc
 exact lv3_at (h3 w hw) (by rw [h w hw]; exact hi)
theorem levC {ws : List (List Nat)} {i L : Nat} {ρ : Rho} (h1 : ρ[1]? = some (.val (.int (i : Nat)))) (h : ∀ w ∈ ws, w.length = L) (hi : i < L) (hm : ws.length ≤ 100) :
  kCo 1 [1] (gNm 0) tYs (p2 oIx (getV 0) (getV 1)) ρ (ws.map Dt.str) = .ok (.lst ((lvs ws i).map fun c => .str [c])) := by
 simp only [kCo]
 rw [com_map Dt.str (fun w => some (.str [lv w i]))]
 ·rw [fm_some, calm_ok, bd_ok, szL_ok (by simp; omega)]
  simp [lvs, Function.comp_def]
 ·intro w hw
  have a1 := at_lv (l := w) (i := i) (by rw [h w hw]; exact hi)
  exists evw, c_st, c_x1, startR, h1, c_x2t, a1, c_some
theorem x_in (l : List Nat) : oIn (.str [120]) (.lst (l.map fun c => .str [c])) = .ok (.bl (decide (120 ∈ l))) := by
 have ha : (l.map fun c => Dt.str [c]).all flatD = true := by
  rw [List.all_eq_true]
  intro d hd
  obtain ⟨p, _, rfl⟩ := List.mem_map.mp hd
  rfl
 have hb : ((l.map fun c => Dt.str [c]).any fun d => eqD d (.str [120])) = decide (120 ∈ l) := by
  rw [List.any_map, Bool.eq_iff_iff, List.any_eq_true, decide_eq_true_iff]
  constructor
  ·rintro ⟨c, hc, e⟩
   simp [eqD] at e
   rw [← e]; exact hc
  ·intro h
   exact ⟨120, h, by simp [eqD]⟩
 simp only [oIn]
 rw [if_pos ⟨rfl, ha⟩, hb]
theorem sumC {l : List Nat} (hb : Bits l) (hl : l.length ≤ 6) {ρ : Rho} :
  kCo 2 [] (gTp 2 (gZc (gNm 0) (gZc (gNm 1) gZn))) tYs (p2 oShl (pCall bIntD (aCons (getV 1) aNil)) (getV 0)) ρ (enumD (l.map fun c => Dt.str [c])) = .ok (.lst ((List.range l.length).map fun p => Dt.int (((l.getD p 48 - 48) * 2 ^ p : Nat) : Int))) := by
 have e0 : l.map (fun c => Dt.str [c]) = (List.range l.length).map fun p => Dt.str [l.getD p 48] := by
  apply List.ext_getElem?
  intro i
  by_cases hi : i < l.length
  ·simp [hi]
  ·rw [List.getElem?_eq_none (by simp; omega), List.getElem?_eq_none (by simp; omega)]
 rw [e0, enum_rng]
 simp only [kCo]
 rw [com_map (fun p : Nat => Dt.tup [.int (p : Nat), .str [l.getD p 48]]) (fun p => some (.int (((l.getD p 48 - 48) * 2 ^ p : Nat) : Int)))]
 ·rw [fm_some, calm_ok, bd_ok, szL_ok (by simp; omega)]
 ·intro p hp
  have hp' : p < l.length := by simpa using hp
  have hc : l.getD p 48 = 48 ∨ l.getD p 48 = 49 := by
   rw [List.getD_eq_getElem?_getD, List.getElem?_eq_getElem hp']
   exact hb _ (List.getElem_mem hp')
  generalize l.getD p 48 = c at hc
  have hcc : c = 48 + (c - 48) := by omega
  have hlt : c - 48 < 2 := by omega
  have hi : bIntD [.str [c]] = .ok (.int ((c - 48 : Nat) : Int)) := by
   have := int_b (b := c - 48) hlt
   rw [← hcc] at this
   exact this
  exists evw, c_st, c_x1, startR, c_x2t, hi, a_shl
  rw [ck_of (by omega)]
  exists evw, c_some
  simp
theorem sum_is {l : List Nat} (hb : Bits l) (hl : l.length ≤ 6) : bSum [.lst ((List.range l.length).map fun p => Dt.int (((l.getD p 48 - 48) * 2 ^ p : Nat) : Int))] = .ok (.int ((nOf l : Nat) : Int)) := by
 show sumR (intsD _) = _
 rw [ints_map]
 simp only [sumR]
 rw [if_pos, sum_cast, nOf_sum]
 refine ⟨by simp; omega, ?_⟩
 rw [List.all_eq_true]
 intro x hx
 obtain ⟨p, hp, rfl⟩ := List.mem_map.mp hx
 have hp' : p < l.length := by simpa using hp
 have hc : l.getD p 48 = 48 ∨ l.getD p 48 = 49 := by
  rw [List.getD_eq_getElem?_getD, List.getElem?_eq_getElem hp']
  exact hb _ (List.getElem_mem hp')
 have h2 : 2 ^ p ≤ 2 ^ 6 := Nat.pow_le_pow_right (by decide) (by omega)
 have h3 : (l.getD p 48 - 48) * 2 ^ p ≤ 1 * 2 ^ 6 := Nat.mul_le_mul (by omega) h2
 exact small_ok h3
theorem value_is {t : Bool} {ws : List (List Nat)} {i L : Nat} (hl : ws.length ≤ 6) (h : ∀ w ∈ ws, w.length = L) (h3 : ∀ w ∈ ws, Lv3 w) (hi : i < L) : F_value_at [wsD t ws, .int (i : Nat)] = .ok (oD (vOf (lvs ws i))) := by
 have hlv := lvs_lv3 h3 h hi
 have hll : (lvs ws i).length ≤ 6 := by simpa [lvs] using hl
 have hq : wsD t ws = .tup (ws.map Dt.str) ∨ wsD t ws = .lst (ws.map Dt.str) := by
  cases t
  ·exact .inr rfl
  ·exact .inl rfl
 unfold F_value_at B_value_at
 rcases hq with e | e
 all_goals
  rw [e]
  exists ev
  rw [levC (ws := ws) (i := i) (L := L) rfl h hi (by omega)]
  by_cases hx : 120 ∈ lvs ws i
  ·exists evw, x_in, hx
   simp [vOf, hx, oD]
  ·have hbt := bits_of hlv hx
   exists evw, x_in, hx, a_en, a_sqL, a_kEn
   rw [sumC hbt hll]
   exists evw, sum_is hbt hll
   simp [vOf, hx, oD]
def vals (L : Nat) (ws : List (List Nat)) : List (Option Nat) := (List.range L).map fun i => vOf (lvs ws i)
theorem values_is {t : Bool} {ws : List (List Nat)} {L : Nat} (h0 : ws ≠ []) (hl : ws.length ≤ 6) (h : ∀ w ∈ ws, w.length = L) (h3 : ∀ w ∈ ws, Lv3 w) (hL : L ≤ 100) : F_values_of [wsD t ws] = .ok (.lst ((vals L ws).map oD)) := by
 unfold F_values_of B_values_of
 exists evw, common_is (t := t) h0 (by omega) h
 rw [ck_of (by omega)]
 exists ev
 simp only [kCo]
 rw [com_rng (fun i => some (oD (vOf (lvs ws i))))]
 ·rw [fm_some, calm_ok, bd_ok, szL_ok (by simp; omega)]
  exists ev
  rw [show (((L : Nat) : Int) - 0).toNat = L by omega]
  simp [vals, Function.comp_def]
 ·intro i hi
  have e0 : (0 : Int) + (i : Nat) = (i : Nat) := by omega
  have hv := value_is (t := t) (ws := ws) (i := i) (L := L) hl h h3 (by omega)
  exists evw, c_st, c_x1, startR, e0, hv, c_x2t, c_some
def nLo : List Nat → Nat
 | [] => 0
 | c :: r => (if c = 49 then 1 else 0) + 2 * nLo r
def nHi : List Nat → Nat
 | [] => 0
 | c :: r => (if c = 48 then 0 else 1) + 2 * nHi r
abbrev rp (b c : Nat) : Nat := if c = 120 then b else c
theorem rp_lo : ∀ {l : List Nat}, Lv3 l → nOf (l.map (rp 48)) = nLo l ∧ nOf (l.map (rp 49)) = nHi l
 | [], _ => ⟨rfl, rfl⟩
 | c :: r, h => by
  obtain ⟨i1, i2⟩ := rp_lo (l := r) fun d hd => h d (List.mem_cons_of_mem _ hd)
  simp only [List.map_cons, nOf, nLo, nHi, i1, i2]
  rcases h c List.mem_cons_self with e | e | e <;> subst e <;> simp [rp]
theorem rp_no (b : Nat) (hb : b ≠ 120) (l : List Nat) : 120 ∉ l.map (rp b) := by
 intro h
 obtain ⟨c, hc, e⟩ := List.mem_map.mp h
 unfold rp at e
 split at e
 ·exact hb e
 ·contradiction
theorem lv_map {f : Nat → Nat} {w : List Nat} {i : Nat} (h : i < w.length) : lv (w.map f) i = f (lv w i) := by simp [lv, h]
theorem lvs_rp {ws : List (List Nat)} {i L b : Nat} (h : ∀ w ∈ ws, w.length = L) (hi : i < L) : lvs (ws.map fun w => w.map (rp b)) i = (lvs ws i).map (rp b) := by
 unfold lvs
 rw [List.map_map, List.map_map]
 apply List.map_congr_left
 intro w hw
 exact lv_map (by rw [h w hw]; exact hi)
theorem lv3_rp {w : List Nat} (h : Lv3 w) {b : Nat} (hb : b = 48 ∨ b = 49) : Lv3 (w.map (rp b)) := by
 intro c hc
 obtain ⟨d, hd, rfl⟩ := List.mem_map.mp hc
 unfold rp
 rcases h d hd with e | e | e <;> subst e <;> rcases hb with e | e <;> subst e <;> simp
theorem replC {ws : List (List Nat)} {b L : Nat} {ρ : Rho} (h : ∀ w ∈ ws, w.length = L) (hL : L ≤ 1000) (hl : ws.length ≤ 100) :
  kCo 1 [] (gNm 0) tYs (p1 (oRepl 120 b) (getV 0)) ρ (ws.map Dt.str) = .ok (.lst ((ws.map fun w => w.map (rp b)).map Dt.str)) := by
 simp only [kCo]
 rw [com_map Dt.str (fun w => some (.str (w.map (rp b))))]
 ·rw [fm_some, calm_ok, bd_ok, szL_ok (by simp; omega)]
  simp [Function.comp_def]
 ·intro w hw
  have hw' := h w hw
  exists evw, c_st, c_x1, startR, c_x2t, a_repl
  rw [ck_of (by omega)]
  exists evw, c_some
def bds (L : Nat) (ws : List (List Nat)) : List Dt := (List.range L).map fun i => Dt.tup [.int ((nLo (lvs ws i) : Nat) : Int), .int ((nHi (lvs ws i) : Nat) : Int)]
theorem bounds_is {ws : List (List Nat)} {L : Nat} (h0 : ws ≠ []) (hl : ws.length ≤ 6) (h : ∀ w ∈ ws, w.length = L) (h3 : ∀ w ∈ ws, Lv3 w) (hL : L ≤ 100) : F_value_bounds [.lst (ws.map Dt.str)] = .ok (.lst (bds L ws)) := by
 have n0 : ∀ b, (ws.map fun w => w.map (rp b)) ≠ [] := fun b e => h0 (List.map_eq_nil_iff.mp e)
 have e0 : ∀ b, ∀ w ∈ (ws.map fun w => w.map (rp b)), w.length = L := fun b w hw => by
  obtain ⟨v, hv, rfl⟩ := List.mem_map.mp hw
  simpa using h v hv
 have l0 : ∀ b, (ws.map fun w => w.map (rp b)).length ≤ 6 := fun b => by simpa using hl
 have k0 : ∀ b, (b = 48 ∨ b = 49) → ∀ w ∈ (ws.map fun w => w.map (rp b)), Lv3 w := fun b hb w hw => by
  obtain ⟨v, hv, rfl⟩ := List.mem_map.mp hw
  exact lv3_rp (h3 v hv) hb
 have v1 := values_is (t := false) (n0 48) (l0 48) (e0 48) (k0 48 (.inl rfl)) hL
 have v2 := values_is (t := false) (n0 49) (l0 49) (e0 49) (k0 49 (.inr rfl)) hL
 simp only [wsD, Bool.false_eq_true, if_false] at v1 v2
 unfold F_value_bounds B_value_bounds
 exists ev
 rw [replC (b := 48) h (by omega) (by omega)]
 exists evw, v1
 rw [replC (b := 49) h (by omega) (by omega)]
 exists evw, v2
 have hz : oLzip (.lst ((vals L (ws.map fun w => w.map (rp 48))).map oD)) (.lst ((vals L (ws.map fun w => w.map (rp 49))).map oD)) = .ok (.lst (bds L ws)) := by
  simp only [oLzip]
  rw [if_pos (by simp [vals])]
  congr 2
  apply List.ext_getElem?
  intro i
  by_cases hi : i < L
  ·have lvi := lvs_lv3 h3 h hi
   obtain ⟨q1, q2⟩ := rp_lo lvi
   have n1 := rp_no 48 (by decide) (lvs ws i)
   have n2 := rp_no 49 (by decide) (lvs ws i)
   simp only [zipD, bds, vals, List.map_map, List.getElem?_map, List.getElem?_range hi, Option.map_some, List.getElem?_zip_eq_some, Function.comp]
   rw [List.getElem?_eq_getElem (by simp; exact hi)]
   simp only [List.getElem_zip, List.getElem_map, List.getElem_range, Option.map_some]
   show some (Dt.tup [oD (vOf (lvs _ i)), oD (vOf (lvs _ i))]) = _
   rw [lvs_rp h hi, lvs_rp h hi]
   simp only [vOf, n1, n2, if_false, q1, q2, oD]
  ·rw [List.getElem?_eq_none (by simp [zipD, vals]; omega), List.getElem?_eq_none (by simp [bds]; omega)]
 exists evw, hz
theorem a_lc {ds : List Dt} {l : List Nat} : lcA ds [.str l] = lcM l (strsM ds) := .trans rfl rfl
theorem a_mlc {ds : List Dt} : mLCnt (.lst ds) = some (lcA ds) := .trans rfl rfl
theorem a_lcM {l : List Nat} {ls : List (List Nat)} : lcM l (some ls) = .ok (.int (ls.count l : Nat)) := .trans rfl rfl
def wnd (w : List Nat) (n : Nat) : List (List Nat) := (List.range (w.length - n + 1)).map fun i => (w.drop i).take n
theorem wnd_len (w : List Nat) (n : Nat) : (wnd w n).length = w.length - n + 1 := by simp [wnd]
theorem windows_is {w : List Nat} {n : Nat} (h1 : 1 ≤ n) (h2 : n ≤ w.length) (hw : w.length ≤ 1000) : F_windows [.str w, .int (n : Nat)] = .ok (.lst ((wnd w n).map Dt.str)) := by
 unfold F_windows B_windows
 have g1 : decide ((1 : Int) ≤ (n : Nat)) = true := decide_eq_true (by omega)
 have g2 : decide (((n : Nat) : Int) ≤ (w.length : Nat)) = true := decide_eq_true (by omega)
 exists evw, g1, g2
 rw [ck_of (by omega)]
 exists ev
 simp only [kCo]
 rw [com_rng (fun i => some (.str ((w.drop i).take n)))]
 ·rw [fm_some, calm_ok, bd_ok, szL_ok (by simp; omega)]
  exists ev
  rw [show (((w.length : Nat) : Int) - ((n : Nat) : Int) + 1 - 0).toNat = w.length - n + 1 by omega]
  simp [wnd, Function.comp_def]
 ·intro i hi
  have c := cutZ_mid w (k := 0 + (i : Nat)) (k' := 0 + (i : Nat) + (n : Nat)) (i := i) (j := i + n) (by omega) (by omega) (by omega)
  rw [show i + n - i = n by omega] at c
  exists evw, c_st, c_x1, startR, c_x2t, c
  rfl
def rot (a : List Nat) (k : Nat) : List Nat := a.drop k ++ a.take k
def rl (a : List Nat) (b : Int) : List Nat := rot a ((-b) % (a.length : Nat)).toNat
theorem sortset_is {ps : List (List Nat)} (h : ps.length ≤ 60) : oSortSet (.lst (ps.map Dt.str)) = .ok (.lst ((sortT ps.eraseDups).map Dt.str)) := by
 show (if (ps.map Dt.str).length ≤ 60 then sortSM (strsM (ps.map Dt.str)) else .bad) = _
 rw [if_pos (by simpa using h), strs_all]
 rfl
def wct (ps : List (List Nat)) : List Dt := (sortT ps.eraseDups).map fun p => .tup [.str p, .int (ps.count p : Nat)]
theorem dup_le (ps : List (List Nat)) : ps.eraseDups.length ≤ ps.length := by
 generalize hn : ps.length = n
 induction n using Nat.strongRecOn generalizing ps with
 | _ n ih =>
  cases ps with
  | nil => simp
  | cons x l =>
   rw [List.eraseDups_cons]
   simp only [List.length_cons] at hn ⊢
   have h1 := List.length_filter_le (fun b => !b == x) l
   have := ih _ (by omega) (l.filter fun b => !b == x) rfl
   omega
theorem countsC {ps : List (List Nat)} {ρ : Rho} {x : Nat} (hx : ρ[x]? = some (.val (.lst (ps.map Dt.str)))) (h : ps.length ≤ 60) :
  kCo 1 [x] (gNm 0) tYs (pTup (aCons (getV 0) (aCons (pMeth mLCnt (getV 1) (aCons (getV 0) aNil)) aNil))) ρ ((sortT ps.eraseDups).map Dt.str) = .ok (.lst (wct ps)) := by
 have hl := dup_le ps
 have hs := (sortT_perm ps.eraseDups).length_eq
 simp only [kCo]
 rw [com_map Dt.str (fun p => some (.tup [.str p, .int (ps.count p : Nat)]))]
 ·rw [fm_some, calm_ok, bd_ok, szL_ok (by simp; omega)]
  rfl
 ·intro p hp
  exists evw, c_st, c_x1, startR, c_x2t, hx, a_mlc, a_lc, strs_all, a_lcM
  rfl
theorem counts_is {w : List Nat} {n : Nat} (h1 : 1 ≤ n) (h2 : n ≤ w.length) (hw : w.length ≤ 50) : F_window_counts [.str w, .int (n : Nat)] = .ok (.lst (wct (wnd w n))) := by
 have hl := wnd_len w n
 unfold F_window_counts B_window_counts
 exists evw, windows_is h1 h2 (by omega)
 exists evw, sortset_is (ps := wnd w n) (by omega)
 rw [countsC (ps := wnd w n) rfl (by omega)]
 exists ev
def prs : Nat → List Nat → List (Nat × Nat)
 | _, [] => []
 | s, x :: r => (s, x) :: prs x r
theorem prs_zip : ∀ (m : List Nat) (s e : Nat), (s :: m).zip (m ++ [e]) = prs s (m ++ [e])
 | [], s, e => rfl
 | x :: m, s, e => by
  show (s, x) :: (x :: m).zip (m ++ [e]) = _
  rw [prs_zip m x e]
  rfl
def cw (T : List Nat) (p : Nat × Nat) : Nat := (T.filter fun t => decide (p.1 ≤ t) && decide (t < p.2)).length
theorem prs_len : ∀ (l : List Nat) (s : Nat), (prs s l).length = l.length
 | [], _ => rfl
 | x :: l, s => by simp [prs, prs_len l x]
abbrev nD (T : List Nat) : List Dt := T.map fun (t : Nat) => Dt.int (t : Nat)
theorem within_is {T : List Nat} {s e : Nat} (hT : T.length ≤ 1000) : F_count_within [.lst (nD T), .int (s : Nat), .int (e : Nat)] = .ok (.int (cw T (s, e) : Nat)) := by
 unfold F_count_within B_count_within
 exists ev
 simp only [kCo]
 rw [com_map (fun (t : Nat) => Dt.int (t : Nat)) (fun t => if (decide (s ≤ t) && decide (t < e)) = true then some (.int (t : Nat)) else none)]
 ·rw [fm_if, calm_ok, bd_ok, szL_ok (by simp; exact Nat.le_trans (List.length_filter_le ..) (by omega))]
  exists ev
  simp [cw]
 ·intro t ht
  by_cases a : s ≤ t
  ·have g1 : decide (((s : Nat) : Int) ≤ (t : Nat)) = true := decide_eq_true (by omega)
   by_cases b : t < e
   ·have g2 : decide (((t : Nat) : Int) < (e : Nat)) = true := decide_eq_true (by omega)
    exists evw, c_st, c_x1, startR, g1, g2, c_x2t, c_some
    simp [a, b]
   ·have g2 : decide (((t : Nat) : Int) < (e : Nat)) = false := decide_eq_false (by omega)
    exists evw, c_st, c_x1, startR, g1, g2, c_x2f
    simp [a, b]
  ·have g1 : decide (((s : Nat) : Int) ≤ (t : Nat)) = false := decide_eq_false (by omega)
   exists evw, c_st, c_x1, startR, g1, c_x2f
   simp [a]
def ckT (w : List Nat) : List Nat := (chT w).map (1 + ·)
def mkT (b : List Nat) : List Nat := (upT b).map (1 + ·)
theorem mk_D (b : List Nat) : ((upT b).map fun (i : Nat) => Dt.int (1 + (i : Nat))) = nD (mkT b) := by
 simp [nD, mkT, Function.comp_def]
theorem chT_len (w : List Nat) : (chT w).length ≤ w.length := by
 have := List.length_filter_le (fun i => !decide (lv w (i + 1) = lv w i)) (List.range (w.length - 1))
 unfold chT
 simp at this ⊢
 omega
theorem ck_len (w : List Nat) : (ckT w).length ≤ w.length := by simpa [ckT] using chT_len w
theorem mk_len (b : List Nat) : (mkT b).length ≤ b.length := by simpa [mkT] using upT_len b
def cbs (w b : List Nat) : List Nat := (prs 0 (mkT b ++ [w.length])).map (cw (ckT w))
theorem between_is {w b : List Nat} (h : w.length = b.length) (hw : w.length ≤ 900) : F_changes_between [.str w, .str b] = .ok (.lst (nD (cbs w b))) := by
 have l1 := ck_len w
 have l2 := mk_len b
 unfold F_changes_between B_changes_between
 exists ev
 rw [szL_ok (by simp)]
 exists evw, unlike_two h, changes_eq (l := w) (by omega)
 simp only [kCo]
 rw [com_map (chE w) (fun i => some (.int (1 + (i : Nat))))]
 ·rw [fm_some, calm_ok, bd_ok, szL_ok (by have := chT_len w; simp; omega)]
  have e1 : ((chT w).map fun (i : Nat) => Dt.int (1 + (i : Nat))) = nD (ckT w) := by simp [nD, ckT, Function.comp_def]
  rw [e1]
  exists evw, rises_eq (l := b) (by omega)
  rw [mk_D]
  exists ev
  rw [szL_ok (by simp)]
  exists ev
  rw [szL_ok (by simp [nD]; omega)]
  exists ev
  rw [szL_ok (by simp)]
  exists ev
  rw [szL_ok (by simp [nD]; omega)]
  exists evw, a_zn, a_sqL, a_kN1
  have e2 : zipD (Dt.int 0 :: nD (mkT b)) (nD (mkT b) ++ [Dt.int (w.length : Nat)]) = (prs 0 (mkT b ++ [w.length])).map fun p => Dt.tup [.int (p.1 : Nat), .int (p.2 : Nat)] := by
   have : Dt.int 0 :: nD (mkT b) = nD (0 :: mkT b) := rfl
   rw [this, show nD (mkT b) ++ [Dt.int (w.length : Nat)] = nD (mkT b ++ [w.length]) by simp [nD], ← prs_zip]
   unfold zipD nD
   rw [List.zip_map, List.map_map]
   rfl
  rw [e2]
  simp only [kCo]
  rw [com_map (fun p : Nat × Nat => Dt.tup [.int (p.1 : Nat), .int (p.2 : Nat)]) (fun p => some (.int (cw (ckT w) p : Nat)))]
  ·rw [fm_some, calm_ok, bd_ok, szL_ok (by simp [prs_len]; omega)]
   exists ev
   simp [cbs, nD, Function.comp_def]
  ·intro p hp
   exists evw, c_st, c_x1, startR, c_x2t, within_is (T := ckT w) (s := p.1) (e := p.2) (by omega), c_some
 ·intro i hi
  unfold chE
  exists evw, c_st, c_x1, startR, c_x2t, c_some
def hgB (ws : List (List Nat)) (i : Nat) : Bool := ws.all fun w => decide (lv w i = 49)
def hgT (L : Nat) (ws : List (List Nat)) : List Nat := (List.range L).filter (hgB ws)
theorem high_is {t : Bool} {ws : List (List Nat)} {L : Nat} (h0 : ws ≠ []) (hl : ws.length ≤ 100) (h : ∀ w ∈ ws, w.length = L) (hL : L ≤ 1000) : F_all_high [wsD t ws] = .ok (.lst (nD (hgT L ws))) := by
 unfold F_all_high B_all_high
 exists evw, common_is (t := t) h0 hl h
 rw [ck_of (by omega)]
 exists ev
 simp only [kCo]
 rw [com_rng (fun i => if hgB ws i = true then some (.int (0 + (i : Nat))) else none)]
 ·rw [fm_if, show (((L : Nat) : Int) - 0).toNat = L by omega, calm_ok, bd_ok]
  have := List.length_filter_le (hgB ws) (List.range L)
  rw [szL_ok (by simp at this ⊢; omega)]
  exists ev
  simp [nD, hgT, Function.comp_def]
 ·intro i hi
  have hi' : i < L := by omega
  have hc : kCo 1 [0] (gNm 0) tYs (p2 oEq (p2 oIx (getV 0) (getV 1)) (pC (.str [49]))) [.val (.int (0 + (i : Nat))), .val (wsD t ws)] (ws.map Dt.str) = .ok (.lst (ws.map fun w => .bl (decide (lv w i = 49)))) := by
   simp only [kCo]
   rw [com_map Dt.str (fun w => some (.bl (decide (lv w i = 49))))]
   ·rw [fm_some, calm_ok, bd_ok, szL_ok (by simp; omega)]
   ·intro w hw
    have a1 := at_lvI (l := w) (k := 0 + (i : Nat)) (i := i) (by omega) (by rw [h w hw]; exact hi')
    exists evw, c_st, c_x1, startR, a1, c_x2t, c_some
    simp
  have hq : (wsD t ws = .tup (ws.map Dt.str) ∧ t = true) ∨ (wsD t ws = .lst (ws.map Dt.str) ∧ t = false) := by
   cases t
   ·exact .inr ⟨rfl, rfl⟩
   ·exact .inl ⟨rfl, rfl⟩
  have hb : (ws.map fun w => decide (lv w i = 49)).all id = hgB ws i := by simp [hgB, List.all_map, Function.comp_def]
  rcases hq with ⟨e, _⟩ | ⟨e, _⟩
  ·rw [e] at hc ⊢
   exists evw, c_st, c_x1, startR, hc, bools_map, hb
   cases hgB ws i
   ·exists evw, c_x2f
    rfl
   ·exists evw, c_x2t, c_some
    rfl
  ·rw [e] at hc ⊢
   exists evw, c_st, c_x1, startR, hc, bools_map, hb
   cases hgB ws i
   ·exists evw, c_x2f
    rfl
   ·exists evw, c_x2t, c_some
    rfl
theorem dep_oD (o : Option Nat) : dep (oD o) = 0 := by cases o <;> rfl
theorem deps_oD : ∀ l : List (Option Nat), deps (l.map oD) = 0
 | [] => rfl
 | o :: l => by
  show max (dep (oD o)) (deps (l.map oD)) = 0
  rw [deps_oD l, dep_oD]
  rfl
theorem dep_strs (ps : List (List Nat)) : dep (.lst (ps.map Dt.str)) ≤ 50 := by
 have : ∀ ps : List (List Nat), deps (ps.map Dt.str) = 0 := fun ps => by
  induction ps with
  | nil => rfl
  | cons a r ih => show max (dep (.str a)) (deps (r.map Dt.str)) = 0; rw [ih]; rfl
 show deps _ + 1 ≤ 50
 rw [this]
 decide
theorem dep_nums (l : List (Option Nat)) : dep (.lst (l.map oD)) ≤ 50 := by
 show deps _ + 1 ≤ 50
 rw [deps_oD]
 decide
def chg : Option Nat → Option Nat → Bool
 | some x, some y => !decide (x = y)
 | _, _ => false
theorem change_is (a b : Option Nat) : F_is_change [oD a, oD b] = .ok (.bl (chg a b)) := by
 cases a with
 | none => cases b <;> rfl
 | some x =>
  cases b with
  | none => rfl
  | some y =>
   have o1 : oD (some x) = .int (x : Nat) := rfl
   have o2 : oD (some y) = .int (y : Nat) := rfl
   have ni : oIn .non (.tup [.int (x : Nat), .int (y : Nat)]) = .ok (.bl false) := rfl
   have de : decide (((x : Nat) : Int) = ((y : Nat) : Int)) = decide (x = y) := decide_eq_decide.mpr (by omega)
   unfold F_is_change B_is_change
   exists evw, o1, o2
   rw [ck_of (by omega)]
   exists evw, ni, de
   rfl
def chL (ns : List (Option Nat)) : List Nat := (List.range (ns.length - 1)).filter fun i => chg (ns.getD i none) (ns.getD (i + 1) none)
theorem chL_len (ns : List (Option Nat)) : (chL ns).length ≤ ns.length := by
 have := List.length_filter_le (fun i => chg (ns.getD i none) (ns.getD (i + 1) none)) (List.range (ns.length - 1))
 rw [List.length_range] at this
 unfold chL
 omega
theorem atO {ns : List (Option Nat)} {i : Nat} {k : Int} (e : k = (i : Nat)) (h : i < ns.length) : atZ (ns.map oD) k = some (oD (ns.getD i none)) := by
 subst e
 have hi : ixZ ns.length (i : Nat) = some i := by
  unfold ixZ
  simp [h]
 unfold atZ
 simp [h, hi]
theorem vchanges_is {ws : List (List Nat)} {L : Nat} (h0 : ws ≠ []) (hl : ws.length ≤ 6) (h : ∀ w ∈ ws, w.length = L) (h3 : ∀ w ∈ ws, Lv3 w) (hL : L ≤ 100) : F_value_changes [.lst (ws.map Dt.str)] = .ok (.lst ((chL (vals L ws)).map fun (i : Nat) => .int (1 + (i : Nat)))) := by
 unfold F_value_changes B_value_changes
 have hv := values_is (t := false) h0 hl h h3 hL
 simp only [wsD, Bool.false_eq_true, if_false] at hv
 have hkl : (vals L ws).length = L := by simp [vals]
 generalize vals L ws = ks at hv hkl
 exists evw, hv
 rw [ck_of (by omega)]
 exists ev
 simp only [kCo]
 rw [com_rng (fun i => if chg (ks.getD i none) (ks.getD (i + 1) none) = true then some (.int (1 + (i : Nat))) else none)]
 ·rw [fm_if, calm_ok, bd_ok, szL_ok]
  ·exists ev
   unfold chL
   rw [show ((ks.length : Int) - 1).toNat = ks.length - 1 by omega]
  ·have := List.length_filter_le (fun i => chg (ks.getD i none) (ks.getD (i + 1) none)) (List.range ((ks.length : Int) - 1).toNat)
   rw [List.length_range] at this
   rw [List.length_map]
   omega
 ·intro i hi
  have a0 := atO (ns := ks) (i := i) (k := 1 + (i : Nat) - 1) (by omega) (by omega)
  have a1 := atO (ns := ks) (i := i + 1) (k := 1 + (i : Nat)) (by omega) (by omega)
  have c := change_is (ks.getD i none) (ks.getD (i + 1) none)
  cases q : chg (ks.getD i none) (ks.getD (i + 1) none) with
  | true =>
   rw [q] at c
   exists evw, c_st, c_x1, startR, a0, a1, c, c_x2t, c_some, if_true
  | false =>
   rw [q] at c
   exists evw, c_st, c_x1, startR, a0, a1, c, c_x2f, Bool.false_eq_true, if_false
theorem deps_le {n : Nat} : ∀ {ds : List Dt}, (∀ d ∈ ds, dep d ≤ n) → deps ds ≤ n
 | [], _ => Nat.zero_le _
 | d :: ds, h => by
  show max (dep d) (deps ds) ≤ n
  exact Nat.max_le.mpr ⟨h d List.mem_cons_self, deps_le fun e he => h e (List.mem_cons_of_mem _ he)⟩
theorem dep_le {ds : List Dt} (h : ∀ d ∈ ds, dep d ≤ 5) : dep (.lst ds) ≤ 50 := by
 show deps ds + 1 ≤ 50
 have := deps_le h
 omega
theorem dep_map {α : Type} {f : α → Dt} {l : List α} (h : ∀ a, dep (f a) ≤ 5) : dep (.lst (l.map f)) ≤ 50 := dep_le fun d hd => by
 obtain ⟨a, _, rfl⟩ := List.mem_map.mp hd
 exact h a
theorem dA {d : Dt} {F : List Dt → M Dt} {ρ : Rho} {j : Nat} {ds : List Dt} (h1 : ρ[j]? = some (.val d)) (hF : F [d] = .ok (.lst ds)) (hl : ds.length ≤ 10000) (hd : dep (.lst ds) ≤ 50) : pStays [j] (pCall F (aCons (getV 0) aNil)) ρ = .ok (.bl true) := by
 refine stays_ok (ds := ds) ?_ hl hd
 exists evw, startR, h1, hF
theorem dB {d : Dt} {k : Int} {F : List Dt → M Dt} {ρ : Rho} {j : Nat} {ds : List Dt} (h1 : ρ[j]? = some (.val d)) (hF : F [d, .int k] = .ok (.lst ds)) (hl : ds.length ≤ 10000) (hd : dep (.lst ds) ≤ 50) : pStays [j] (pCall F (aCons (getV 0) (aCons (pC (.int k)) aNil))) ρ = .ok (.bl true) := by
 refine stays_ok (ds := ds) ?_ hl hd
 exists evw, startR, h1, hF
theorem dC {xs : List Dt} {w : Dt} {k : Int} {F : List Dt → M Dt} {ρ : Rho} {j : Nat} {ds : List Dt} (h1 : ρ[j]? = some (.val (.lst xs))) (h0 : atZ xs 0 = some w) (hF : F [w, .int k] = .ok (.lst ds)) (hl : ds.length ≤ 10000) (hd : dep (.lst ds) ≤ 50) : pStays [j] (pCall F (aCons (p2 oIx (getV 0) (pC (.int 0))) (aCons (pC (.int k)) aNil))) ρ = .ok (.bl true) := by
 refine stays_ok (ds := ds) ?_ hl hd
 exists evw, startR, h1, h0, hF
theorem dD {xs : List Dt} {w v : Dt} {F : List Dt → M Dt} {ρ : Rho} {j : Nat} {ds : List Dt} (h1 : ρ[j]? = some (.val (.lst xs))) (h0 : atZ xs 0 = some w) (h2 : atZ xs 1 = some v) (hF : F [w, v] = .ok (.lst ds)) (hl : ds.length ≤ 10000) (hd : dep (.lst ds) ≤ 50) : pStays [j] (pCall F (aCons (p2 oIx (getV 0) (pC (.int 0))) (aCons (p2 oIx (getV 0) (pC (.int 1))) aNil))) ρ = .ok (.bl true) := by
 refine stays_ok (ds := ds) ?_ hl hd
 exists evw, startR, h1, h0, h2, hF
theorem law_true (ns : List Int) (_ : ns.length ≤ 63) : F_law [.lst (ns.map Dt.int)] = .ok (.bl true) := by
 have s0 : ([48, 49, 120] : List Nat) ≠ [] := by decide
 have sl : ([48, 49, 120] : List Nat).length ≤ 1000 := by decide
 generalize hws : ((List.range 3).map fun k => waveL ns (10 + 40 * (k : Nat)) 9 [48, 49, 120]) = ws
 have hl : ws.length = 3 := by rw [← hws]; simp
 have h : ∀ x ∈ ws, x.length = 9 := fun x hx => by
  rw [← hws] at hx
  obtain ⟨k, _, e⟩ := List.mem_map.mp hx
  have := waveL_length ns (10 + 40 * (k : Nat)) (many := 9) [48, 49, 120] (by omega)
  rw [e] at this
  omega
 have h3 : ∀ x ∈ ws, Lv3 x := fun x hx => by
  rw [← hws] at hx
  obtain ⟨k, _, e⟩ := List.mem_map.mp hx
  have := waveL_mem ns (10 + 40 * (k : Nat)) 9 s0
  rw [e] at this
  exact fun c hc => by have := this c hc; simp at this; omega
 obtain ⟨a, b, c, hab⟩ : ∃ a b c, ws = [a, b, c] := by
  match ws, hl with
  | [a, b, c], _ => exact ⟨a, b, c, rfl⟩
 have la := h a (by rw [hab]; simp)
 have lb := h b (by rw [hab]; simp)
 have hco : ∀ {ρ : Rho}, ρ[0]? = some (.val (scr ns)) → kCo 1 [0] (gNm 0) tYs (pCall F_L_wave (aCons (getV 1) (aCons (p2 oAdd (pC (.int 10)) (p2 oMul (pC (.int 40)) (getV 0))) (aCons (pC (.int 9)) (aCons (pC (.str [48, 49, 120])) aNil))))) ρ (rngD 0 3) = .ok (.lst (ws.map Dt.str)) := fun {ρ} h0 => by
  simp only [kCo]
  rw [com_rng (fun k => some (.str (waveL ns (10 + 40 * (k : Nat)) 9 [48, 49, 120])))]
  ·rw [fm_some, calm_ok, bd_ok, szL_ok (by simp), ← hws, List.map_map]
   rfl
  ·intro k hk
   have e0 : (0 : Int) + (k : Nat) = (k : Nat) := by omega
   have q := wave_eq (ns := ns) (a := 10 + 40 * (k : Nat)) (many := 9) (sg := [48, 49, 120]) (by omega) (by omega) (by omega) s0 sl
   exists evw, c_st, c_x1, startR, c_x2t, e0, h0
   exists go
   exists evw, q, c_some
 have n0 : ws ≠ [] := by rw [hab]; simp
 have f1 := values_is (t := false) (L := 9) n0 (by omega) h h3 (by decide)
 simp only [wsD, Bool.false_eq_true, if_false] at f1
 have f2 := bounds_is (L := 9) n0 (by omega) h h3 (by decide)
 have f3 := vchanges_is (L := 9) n0 (by omega) h h3 (by decide)
 have f4 := ofv_is (ns := [some 3, none, some 0]) (m := 2) (c := .lst [.int 3, .non, .int 0]) rfl rfl (by decide) (by decide) (by decide) (by decide) (by intro v hv; simp at hv; rcases hv with e | e <;> subst e <;> decide)
 have f5 := windows_is (w := a) (n := 2) (by decide) (by omega) (by omega)
 have f6 := counts_is (w := a) (n := 2) (by decide) (by omega) (by omega)
 have f7 := between_is (w := a) (b := b) (by omega) (by omega)
 have f8 := high_is (t := false) (L := 9) n0 (by omega) h (by decide)
 simp only [wsD, Bool.false_eq_true, if_false] at f8
 have v9 : (vals 9 ws).length = 9 := by simp [vals]
 have i0 : atZ (ws.map Dt.str) 0 = some (.str a) := atZ_nat (n := 0) (by rw [hab]; rfl)
 have i1 : atZ (ws.map Dt.str) 1 = some (.str b) := atZ_nat (n := 1) (by rw [hab]; rfl)
 have g1 : ∀ {ρ : Rho}, ρ[1]? = some (.val (.lst (ws.map Dt.str))) → pStays [1] (pCall F_values_of (aCons (getV 0) aNil)) ρ = .ok (.bl true) := fun h1 => dA h1 f1 (by rw [List.length_map, v9]; decide) (dep_nums _)
 have g2 : ∀ {ρ : Rho}, ρ[1]? = some (.val (.lst (ws.map Dt.str))) → pStays [1] (pCall F_value_bounds (aCons (getV 0) aNil)) ρ = .ok (.bl true) := fun h1 => dA h1 f2 (by simp [bds]) (dep_map fun _ => by show 1 ≤ 5; decide)
 have g3 : ∀ {ρ : Rho}, ρ[1]? = some (.val (.lst (ws.map Dt.str))) → pStays [1] (pCall F_value_changes (aCons (getV 0) aNil)) ρ = .ok (.bl true) := fun h1 => dA h1 f3 (by rw [List.length_map]; have := chL_len (vals 9 ws); omega) (dep_map fun _ => by show 0 ≤ 5; decide)
 have g4 : ∀ {ρ : Rho}, ρ[3]? = some (.val (.lst [.int 3, .non, .int 0])) → pStays [3] (pCall F_of_values (aCons (getV 0) (aCons (pC (.int 2)) aNil))) ρ = .ok (.bl true) := fun h1 => dB h1 f4 (by simp [bus]) (dep_strs _)
 have g5 : ∀ {ρ : Rho}, ρ[1]? = some (.val (.lst (ws.map Dt.str))) → pStays [1] (pCall F_windows (aCons (p2 oIx (getV 0) (pC (.int 0))) (aCons (pC (.int 2)) aNil))) ρ = .ok (.bl true) := fun h1 => dC h1 i0 f5 (by rw [List.length_map, wnd_len]; omega) (dep_strs _)
 have g6 : ∀ {ρ : Rho}, ρ[1]? = some (.val (.lst (ws.map Dt.str))) → pStays [1] (pCall F_window_counts (aCons (p2 oIx (getV 0) (pC (.int 0))) (aCons (pC (.int 2)) aNil))) ρ = .ok (.bl true) := fun h1 => dC h1 i0 f6 (by unfold wct; rw [List.length_map, (sortT_perm _).length_eq]; have := dup_le (wnd a 2); rw [wnd_len] at this; omega) (dep_map fun _ => by show 1 ≤ 5; decide)
 have g7 : ∀ {ρ : Rho}, ρ[1]? = some (.val (.lst (ws.map Dt.str))) → pStays [1] (pCall F_changes_between (aCons (p2 oIx (getV 0) (pC (.int 0))) (aCons (p2 oIx (getV 0) (pC (.int 1))) aNil))) ρ = .ok (.bl true) := fun h1 => dD h1 i0 i1 f7 (by unfold nD cbs; rw [List.length_map, List.length_map, prs_len, List.length_append]; have := mk_len b; simp; omega) (dep_map fun _ => by show 0 ≤ 5; decide)
 have g8 : ∀ {ρ : Rho}, ρ[1]? = some (.val (.lst (ws.map Dt.str))) → pStays [1] (pCall F_all_high (aCons (getV 0) aNil)) ρ = .ok (.bl true) := fun h1 => dA h1 f8 (by unfold nD hgT; rw [List.length_map]; have := List.length_filter_le (hgB ws) (List.range 9); simp at this; omega) (dep_map fun _ => by show 0 ≤ 5; decide)
 have e1 : oEq (.lst (ws.map Dt.str)) (.lst (ws.map Dt.str)) = .ok (.bl true) := eq_self (dep_strs _)
 have e2 : oEq (.lst [.int 3, .non, .int 0]) (.lst [.int 3, .non, .int 0]) = .ok (.bl true) := eq_self (by decide)
 have e3 : oEq (.lst [.bl true, .bl true, .bl true, .bl true, .bl true, .bl true, .bl true, .bl true]) (.lst [.bl true, .bl true, .bl true, .bl true, .bl true, .bl true, .bl true, .bl true]) = .ok (.bl true) := eq_self (by decide)
 show F_law [scr ns] = _
 unfold F_law B_law
 exists ev
 rw [ck_of (by decide)]
 exists ev
 rw [hco rfl]
 exists ev
 unfold S_law_1
 exists ev
 rw [szL_ok (by decide)]
 exists ev
 rw [ck_of (by simp)]
 exists ev
 unfold S_law_2
 exists ev
 rw [g1 rfl]
 exists ev
 rw [ck_of (by decide)]
 exists ev
 unfold S_law_3
 exists ev
 rw [g2 rfl]
 exists ev
 rw [ck_of (by decide)]
 exists ev
 unfold S_law_4
 exists ev
 rw [g3 rfl]
 exists ev
 rw [ck_of (by decide)]
 exists ev
 unfold S_law_5
 exists ev
 rw [g4 rfl]
 exists ev
 rw [ck_of (by decide)]
 exists ev
 unfold S_law_6
 exists ev
 rw [g5 rfl]
 exists ev
 rw [ck_of (by decide)]
 exists ev
 unfold S_law_7
 exists ev
 rw [g6 rfl]
 exists ev
 rw [ck_of (by decide)]
 exists ev
 unfold S_law_8
 exists ev
 rw [g7 rfl]
 exists ev
 rw [ck_of (by decide)]
 exists ev
 unfold S_law_9
 exists ev
 rw [g8 rfl]
 exists ev
 rw [ck_of (by decide)]
 exists ev
 unfold S_law_10
 exists ev
 rw [ck_of (by decide), ck_of (by decide), show (List.replicate (Int.toNat 8) [Dt.bl true]).flatten = [Dt.bl true, .bl true, .bl true, .bl true, .bl true, .bl true, .bl true, .bl true] from rfl]
 exists evw, e3, e1
 rw [szL_ok (by decide)]
 exists evw, e2
end K96
end MacS
namespace L2
open PySem PySem.Spec PyProof.Rows
abbrev Key := Sum Int Str
def keyIs : Key → Value → Bool
 | .inl k, v => Value.isInt k v
 | .inr x, v => Value.isStrOf x v
def keyH (w : World) : Key → Int
 | .inl k => hashInt k
 | .inr x => hashStr w x
theorem keyIs_shape : ∀ {k : Key} {v : Value}, keyIs k v = true → (∃ i t, k = Sum.inl i ∧ v = Value.int i t) ∨ (∃ x t, k = Sum.inr x ∧ v = Value.str x t)
 | .inl i, v, h => by
  obtain ⟨t, e⟩ := Value.isInt_shape (k := i) (v := v) h
  exact .inl ⟨i, t, rfl, e⟩
 | .inr x, v, h => by
  obtain ⟨t, e⟩ := Value.isStrOf_shape (x := x) (v := v) h
  exact .inr ⟨x, t, rfl, e⟩
theorem key_ll (a b : Int) : decide ((Sum.inl a : Key) = Sum.inl b) = (a == b) := by
 by_cases e : a = b
 ·subst e; simp
 ·have h : ¬ (Sum.inl a : Key) = Sum.inl b := fun q => e (Sum.inl.inj q)
  rw [decide_eq_false h]
  exact (beq_eq_false_iff_ne.mpr e).symm
theorem key_rr (a b : Str) : decide ((Sum.inr a : Key) = Sum.inr b) = decide (a = b) := by
 by_cases e : a = b
 ·subst e; simp
 ·have h : ¬ (Sum.inr a : Key) = Sum.inr b := fun q => e (Sum.inr.inj q)
  rw [decide_eq_false h, decide_eq_false e]
theorem key_lr (a : Int) (b : Str) : decide ((Sum.inl a : Key) = Sum.inr b) = false := decide_eq_false (fun q => nomatch q)
theorem key_rl (a : Str) (b : Int) : decide ((Sum.inr a : Key) = Sum.inl b) = false := decide_eq_false (fun q => nomatch q)
def mixKind (prog : Program) (w : World) : PySem.KeyKind prog w Key where
 is := keyIs
 hash := keyH w
 inj := fun v a b ha hb => by
  rcases keyIs_shape ha with ⟨i, t, rfl, rfl⟩ | ⟨x, t, rfl, rfl⟩
  ·rcases keyIs_shape hb with ⟨j, u, rfl, e⟩ | ⟨y, u, rfl, e⟩
   ·injection e with e1 _; rw [e1]
   ·exact nomatch e
  ·rcases keyIs_shape hb with ⟨j, u, rfl, e⟩ | ⟨y, u, rfl, e⟩
   ·exact nomatch e
   ·injection e with e1 _; rw [e1]
 byValue := fun k v h => by
  rcases keyIs_shape h with ⟨i, t, rfl, rfl⟩ | ⟨x, t, rfl, rfl⟩ <;> rfl
 pyHash := fun hv h => by
  rcases keyIs_shape hv with ⟨i, t, rfl, rfl⟩ | ⟨x, t, rfl, rfl⟩
  ·exact wpAny_pyHash_int h
  ·exact wpAny_pyHash_str h
 eqBool := fun hu hv h => by
  rcases keyIs_shape hu with ⟨i, t, rfl, rfl⟩ | ⟨x, t, rfl, rfl⟩
  ·rcases keyIs_shape hv with ⟨j, u, rfl, rfl⟩ | ⟨y, u, rfl, rfl⟩
   ·rw [key_ll] at h; exact wpAny_eqBool_int h
   ·rw [key_lr] at h; exact SeqAt.EqAt.int_str i t y u _ _ _ _ h
  ·rcases keyIs_shape hv with ⟨j, u, rfl, rfl⟩ | ⟨y, u, rfl, rfl⟩
   ·rw [key_rl] at h; exact SeqAt.EqAt.str_int x t j u _ _ _ _ h
   ·rw [key_rr] at h; exact wpAny_eqBool_str h
 «strs» := fun k x t v h => by
  rcases keyIs_shape h with ⟨i, u, rfl, e⟩ | ⟨y, u, rfl, e⟩
  ·exact nomatch e
  ·injection e with e1 _
   subst e1
   cases v <;> rfl
inductive V where
 | non | bl (b : Bool) | int (i : Int) | str (x : Str) | byt (b : Array UInt8) | flt (b : UInt64) | ref (a : Addr) | ty (n : String)
 deriving DecidableEq
def RelV : V → Value → Prop
 | .non, u => u = Value.none
 | .bl b, u => u = Value.bool b
 | .int i, u => ∃ t, u = Value.int i t
 | .str x, u => ∃ t, u = Value.str x t
 | .byt b, u => ∃ t, u = Value.bytes b t
 | .flt b, u => ∃ t, u = Value.float b t
 | .ref a, u => u = Value.ref a
 | .ty n, u => u = Value.type n
abbrev Vals : List V → List Value → Prop := Paired RelV
theorem Vals.length {xs : List V} {us : List Value} (r : Vals xs us) : xs.length = us.length := Paired.length r
theorem Vals.get : ∀ {xs : List V} {us : List Value} {i : Nat} {x : V}, Vals xs us → xs[i]? = some x → ∃ u, us[i]? = some u ∧ RelV x u
 | _, _, _, _, .nil, e => by simp at e
 | _, _, 0, _, .cons r _, e => by simp at e; subst e; exact ⟨_, rfl, r⟩
 | _, _, i + 1, x, .cons _ t, e => by
  obtain ⟨u, h1, h2⟩ := Vals.get (i := i) (x := x) t (by simpa using e)
  exact ⟨u, by simpa using h1, h2⟩
theorem Vals.set {x : V} {u : Value} (r : RelV x u) : ∀ {xs : List V} {us : List Value} (i : Nat), Vals xs us → Vals (xs.set i x) (us.set i u)
 | _, _, _, .nil => .nil
 | _, _, 0, .cons _ t => .cons r t
 | _, _, i + 1, .cons q t => .cons q (Vals.set r i t)
theorem Vals.append : ∀ {xs ys : List V} {us ws : List Value}, Vals xs us → Vals ys ws → Vals (xs ++ ys) (us ++ ws)
 | _, _, _, _, .nil, s => s
 | _, _, _, _, .cons r t, s => .cons r (Vals.append t s)
theorem Vals.take : ∀ {xs : List V} {us : List Value} (n : Nat), Vals xs us → Vals (xs.take n) (us.take n)
 | _, _, 0, _ => .nil
 | _, _, _ + 1, .nil => .nil
 | _, _, n + 1, .cons r t => .cons r (Vals.take n t)
theorem Vals.drop : ∀ {xs : List V} {us : List Value} (n : Nat), Vals xs us → Vals (xs.drop n) (us.drop n)
 | _, _, 0, r => r
 | _, _, _ + 1, .nil => .nil
 | _, _, n + 1, .cons _ t => Vals.drop n t
def RelO : Option V → Option Value → Prop
 | some v, some u => RelV v u
 | none, none => True
 | _, _ => False
def KV {κ : Type} : List (κ × V) → List (κ × Value) → Prop := Paired fun (p : κ × V) (q : κ × Value) => p.1 = q.1 ∧ RelV p.2 q.2
def kV : Key → V
 | .inl i => .int i
 | .inr x => .str x
inductive HO where
 | lst (xs : List V)
 | tup (xs : List V)
 | dK (kvs : List (Key × V)) | dT (kvs : List (List Key × V))
 | set (S : Int → Bool) (n : Nat)
 | ins (C dx : Addr) (fs : List (Str × V))
 | own (x : Addr)
 | xd (fs : List (Str × V))
 | met (f x : Addr)
 | rng (lo hi : Int)
 | frz (o : Obj) (u : HO)
 | tbl (q : Str)
 | ext (φ : Heap → Prop)
abbrev Hp := Addr → Option HO
def upd (H : Hp) (a : Addr) (o : HO) : Hp := fun b => if b = a then some o else H b
theorem upd_same {H : Hp} {a : Addr} {o : HO} : upd H a o a = some o := by unfold upd; rw [if_pos rfl]
theorem upd_ne {H : Hp} {a b : Addr} {o : HO} (h : b ≠ a) : upd H a o b = H b := by unfold upd; rw [if_neg h]
theorem ne_of_none {H : Hp} {a b : Addr} {o : HO} (h : H a = some o) (h' : H b = none) : a ≠ b := by
 intro e; subst e; rw [h] at h'; cases h'
section
variable (P : Program) (w : World)
def ObjOk (H : Hp) (h : Heap) (a : Addr) : HO → Prop
 | .lst xs => xs.length ≤ sizeLine ∧ ∃ (its : List Value) (n : Nat), Vals xs its ∧ h.get? a = some { cls := .type "list", data := .seq its.toArray n }
 | .tup xs => xs.length ≤ sizeLine ∧ ∃ its : List Value, Vals xs its ∧ IsTup h a its.toArray
 | .dK kvs => kvs.length ≤ sizeLine ∧ (a == sysModules) = false ∧ ∃ vs, KV kvs vs ∧ h.DictOf (mixKind P w) a vs
 | .dT kvs => kvs.length ≤ sizeLine ∧ (a == sysModules) = false ∧ ∃ xs : List (List Key × Addr × Value),
   Paired (fun (p : List Key × V) (q : List Key × Addr × Value) => p.1 = q.1 ∧ H q.2.1 = some (.tup (p.1.map kV)) ∧ RelV p.2 q.2.2) kvs xs ∧
   ∃ o es ep, h.get? a = some o ∧ o.ExactDict ∧ o.data = .dict es ep ∧ es.toList = xs.map (entryOfKey (tupleKind (mixKind P w))) ∧ (xs.map (·.1)).Nodup
 | .set S n => h.SetOf (intKind P w) a S n
 | .ins C dx fs => H dx = some (.own a) ∧ fs.length ≤ 1000 ∧ dx ≠ a ∧ h.get? a = some (PySem.W.instObj C dx) ∧
   ∃ mA, h.Ns1 dx mA ∧ (∀ f, RelO (fs.lookup f) (mA f)) ∧ PySem.Within mA (fs.map (·.1))
 | .own _ => ∃ o, h.get? a = some o
 | .xd fs => ∃ mA, h.Ns1 a mA ∧ ∀ f, RelO (fs.lookup f) (mA f)
 | .rng lo hi => ∃ t u v, h.get? a = some { cls := .type "range", data := .fields #[.int lo t, .int hi u, .int 1 v] }
 | .frz o u => h.get? a = some o ∧ ObjOk H h a u
 | .tbl q => ∃ ps : Array Value, h.get? a = some { cls := .none, data := .fields ps } ∧ TriplesOk ps.toList ∧ ∀ pos cv, codeAmong pos ps.toList = some cv → ∃ c oc u, cv = .ref c ∧ H c = some (.frz oc u) ∧ ∃ vs t, oc.data = .fields vs ∧ vs[1]? = some (.str q t)
 | .met f x => h.get? a = some (PySem.W.methodObj (.ref f) (.ref x))
 | .ext φ => φ h ∧ (∃ o, h.get? a = some o) ∧ ∀ h1 h2 : Heap, φ h1 → (∀ o, h1.get? a = some o → h2.get? a = some o) → φ h2
def HOk (H : Hp) (h : Heap) : Prop := ∀ a o, H a = some o → ObjOk P w H h a o
end
section
variable {P : Program} {w : World} {H H' : Hp} {h h' : Heap} {a : Addr} {o : HO}
theorem ObjOk.lt (x : ObjOk P w H h a o) : a < h.objs.size := by
 cases o with
 | lst xs => obtain ⟨_, _, _, _, e⟩ := x; exact Heap.lt_size e
 | tup xs => obtain ⟨_, _, _, p⟩ := x; exact p.lt
 | dK kvs => obtain ⟨_, _, _, _, o, _, _, e, _⟩ := x; exact Heap.lt_size e
 | dT kvs => obtain ⟨_, _, _, _, o, _, _, e, _⟩ := x; exact Heap.lt_size e
 | set S n => obtain ⟨o, _, _, _, e, _⟩ := x; exact Heap.lt_size e
 | ins C dx fs => obtain ⟨_, _, _, e, _⟩ := x; exact Heap.lt_size e
 | own y => obtain ⟨_, e⟩ := x; exact Heap.lt_size e
 | xd fs => obtain ⟨_, ⟨_, _, _, e, _⟩, _⟩ := x; exact Heap.lt_size e
 | rng lo hi => obtain ⟨_, _, _, e⟩ := x; exact Heap.lt_size e
 | frz ob u => obtain ⟨e, _⟩ := x; exact Heap.lt_size e
 | tbl q => obtain ⟨ps, e, _⟩ := x; exact Heap.lt_size e
 | met f y => exact Heap.lt_size (show h.get? a = some _ from x)
 | ext φ => obtain ⟨_, ⟨_, e⟩, _⟩ := x; exact Heap.lt_size e
theorem Paired.mapP {α β : Type} {F G : α → β → Prop} : ∀ {l₁ : List α} {l₂ : List β}, Paired F l₁ l₂ → (∀ a b, F a b → G a b) → Paired G l₁ l₂
 | _, _, .nil, _ => .nil
 | _, _, .cons r t, f => .cons (f _ _ r) (Paired.mapP t f)
theorem ObjOk.stay (x : ObjOk P w H h a o) (k : ∀ b u, (b = a ∨ H b = some (.own a)) → h.get? b = some u → h'.get? b = some u)
  (ho : ∀ b, H b = some (.own a) → H' b = some (.own a)) (ht : ∀ b xs, H b = some (.tup xs) → H' b = some (.tup xs)) (hf : ∀ b ob u, H b = some (.frz ob u) → H' b = some (.frz ob u) := by exact fun _ _ _ q => q) : ObjOk P w H' h' a o := by
 induction o with
 | lst xs => obtain ⟨z, its, n, r, e⟩ := x; exact ⟨z, its, n, r, k _ _ (.inl rfl) e⟩
 | tup xs => obtain ⟨z, its, r, ob, e, c⟩ := x; exact ⟨z, its, r, ob, k _ _ (.inl rfl) e, c⟩
 | dK kvs => obtain ⟨z, y, vs, r, ob, es, ep, e, c⟩ := x; exact ⟨z, y, vs, r, ob, es, ep, k _ _ (.inl rfl) e, c⟩
 | dT kvs =>
  obtain ⟨z, y, xs, r, ob, es, ep, e, c⟩ := x
  exact ⟨z, y, xs, Paired.mapP r fun p q z => ⟨z.1, ht _ _ z.2.1, z.2.2⟩, ob, es, ep, k _ _ (.inl rfl) e, c⟩
 | set S n => obtain ⟨ob, es, ep, t, e, c⟩ := x; exact ⟨ob, es, ep, t, k _ _ (.inl rfl) e, c⟩
 | ins C dx fs =>
  obtain ⟨d, z, ne, e, mA, ⟨od, es, ep, e2, c⟩, r⟩ := x
  exact ⟨ho _ d, z, ne, k _ _ (.inl rfl) e, mA, ⟨od, es, ep, k _ _ (.inr d) e2, c⟩, r⟩
 | own y => obtain ⟨ob, e⟩ := x; exact ⟨ob, k _ _ (.inl rfl) e⟩
 | xd fs => obtain ⟨mA, ⟨od, es, ep, e, c⟩, r⟩ := x; exact ⟨mA, ⟨od, es, ep, k _ _ (.inl rfl) e, c⟩, r⟩
 | rng lo hi => obtain ⟨t, u, v, e⟩ := x; exact ⟨t, u, v, k _ _ (.inl rfl) e⟩
 | frz ob u ih => obtain ⟨e, q⟩ := x; exact ⟨k _ _ (.inl rfl) e, ih q⟩
 | tbl q =>
  obtain ⟨ps, e, t, g⟩ := x
  exact ⟨ps, k a _ (.inl rfl) e, t, fun pos cv z => by
   obtain ⟨c, oc, u, z1, z2, z3⟩ := g pos cv z
   exact ⟨c, oc, u, z1, hf _ _ _ z2, z3⟩⟩
 | met f y =>
  have e : h.get? a = some (PySem.W.methodObj (.ref f) (.ref y)) := x
  show h'.get? a = some (PySem.W.methodObj (.ref f) (.ref y))
  exact k a _ (.inl rfl) e
 | ext φ => obtain ⟨p, ⟨o, e⟩, st⟩ := x; exact ⟨st _ _ p fun o q => k _ _ (.inl rfl) q, ⟨o, k _ _ (.inl rfl) e⟩, st⟩
theorem HOk.lt (x : HOk P w H h) (e : H a = some o) : a < h.objs.size := (x a o e).lt
theorem HOk.fresh (x : HOk P w H h) (e : h.objs.size ≤ a) : H a = none := by
 cases q : H a with
 | none => rfl
 | some u => exact absurd (Nat.lt_of_lt_of_le (x.lt q) e) (Nat.lt_irrefl _)
theorem HOk.kept (x : HOk P w H h) (k : ∀ b u, h.get? b = some u → h'.get? b = some u) : HOk P w H h' := fun a o e =>
 (x a o e).stay (fun b u _ q => k b u q) (fun _ q => q) fun _ _ q => q
theorem HOk.laid (x : HOk P w H h) (k : ∀ b u, h.get? b = some u → h'.get? b = some u) (hp : h.objs.size ≤ a) (new : ObjOk P w (upd H a o) h' a o) : HOk P w (upd H a o) h' := fun b u e => by
 have hn := x.fresh hp
 by_cases hb : b = a
 ·subst hb; rw [upd_same] at e; cases e; exact new
 ·rw [upd_ne hb] at e
  exact (x b u e).stay (fun c v _ q => k c v q) (fun c q => by rw [upd_ne (ne_of_none q hn)]; exact q) (fun c xs q => by rw [upd_ne (ne_of_none q hn)]; exact q) fun c _ _ q => by rw [upd_ne (ne_of_none q hn)]; exact q
end
def Rd (H : Hp) (a : Addr) (u : HO) : Prop := H a = some u ∨ ∃ o, H a = some (.frz o u)
theorem Rd.ok {P : Program} {w : World} {H : Hp} {h : Heap} {a : Addr} {u : HO} (r : Rd H a u) (x : HOk P w H h) : ObjOk P w H h a u := by
 rcases r with r | ⟨o, r⟩
 ·exact x a u r
 ·obtain ⟨_, q⟩ := x a _ r
  exact q
def Mut : Option HO → Prop
 | some (.lst _) => True
 | some (.dK _) => True
 | some (.dT _) => True
 | some (.set _ _) => True
 | some (.ins _ _ _) => True
 | some (.ext _) => True
 | _ => False
section
variable {P : Program} {w : World} {H : Hp} {h h' : Heap} {x e : Addr} {o' : HO}
theorem HOk.write (ok : HOk P w H h) (mu : Mut (H x)) (he : e = x ∨ H e = some (.own x)) (k : ∀ b u, b ≠ e → h.get? b = some u → h'.get? b = some u) (heo : ∃ u, h'.get? e = some u)
  (new : ObjOk P w (upd H x o') h' x o') : HOk P w (upd H x o') h' := fun b u q => by
 have nown : ∀ c y, H c = some (.own y) → c ≠ x := fun c y r z => by subst z; rw [r] at mu; exact mu
 have ntup : ∀ c xs, H c = some (.tup xs) → c ≠ x := fun c xs r z => by subst z; rw [r] at mu; exact mu
 have nfrz : ∀ c ob v, H c = some (.frz ob v) → c ≠ x := fun c ob v r z => by subst z; rw [r] at mu; exact mu
 by_cases hb : b = x
 ·subst hb; rw [upd_same] at q; cases q; exact new
 ·rw [upd_ne hb] at q
  by_cases hbe : b = e
  ·have q' : H b = some (.own x) := by
    rcases he with z | z
    ·exact absurd (hbe.trans z) hb
    ·rw [hbe]; exact z
   rw [q] at q'; cases q'
   obtain ⟨v, hv⟩ := heo
   exact ⟨v, by rw [hbe]; exact hv⟩
  ·refine (ok b u q).stay (fun c v hc r => k c v ?_ r) (fun c r => by rw [upd_ne (nown c b r)]; exact r) (fun c xs r => by rw [upd_ne (ntup c xs r)]; exact r) fun c ob v r => by rw [upd_ne (nfrz c ob v r)]; exact r
   rcases hc with rfl | hc
   ·exact hbe
   ·rintro rfl
    rcases he with z | z
    ·exact nown c b hc z
    ·rw [hc] at z; cases z; exact hb rfl
end
structure Un (fs ex : List Addr) (H H' : Hp) (h h' : Heap) : Prop where
 keep : ∀ b o, h.get? b = some o → H b = none → b ∉ fs → b ∉ ex → h'.get? b = some o
 slot : ∀ b o, h.get? b = some o → H b = none → b ∈ fs → b ∉ ex → ∃ sl, h'.get? b = some { o with slots := sl }
 free : ∀ b o, h.get? b = some o → H b = none → b ∉ ex → H' b = none
 there : ∀ b o, h.get? b = some o → b ∉ ex → ∃ o', h'.get? b = some o'
 tups : ∀ b xs, H b = some (.tup xs) → H' b = some (.tup xs)
 frzs : ∀ b o u, H b = some (.frz o u) → H' b = some (.frz o u)
 tbls : ∀ b q, H b = some (.tbl q) → H' b = some (.tbl q)
section
variable {fs fs' ex ex' : List Addr} {H H1 H2 : Hp} {h h1 h2 h' : Heap} {a x e : Addr} {o : HO}
theorem Un.any (u : Un fs ex H H1 h h1) {b : Addr} {ob : Obj} (q : h.get? b = some ob) (n : H b = none) (hx : b ∉ ex) : ∃ sl, h1.get? b = some { ob with slots := sl } := by
 by_cases hb : b ∈ fs
 ·exact u.slot b ob q n hb hx
 ·exact ⟨ob.slots, u.keep b ob q n hb hx⟩
theorem Un.trans (a : Un fs ex H H1 h h1) (b : Un fs ex H1 H2 h1 h2) : Un fs ex H H2 h h2 where
 keep := fun c ob q n hc hx => b.keep c ob (a.keep c ob q n hc hx) (a.free c ob q n hx) hc hx
 slot := fun c ob q n hc hx => by
  obtain ⟨sl, e1⟩ := a.slot c ob q n hc hx
  obtain ⟨sl', e2⟩ := b.slot c _ e1 (a.free c ob q n hx) hc hx
  exact ⟨sl', e2⟩
 free := fun c ob q n hx => by
  obtain ⟨o', e1⟩ := a.there c ob q hx
  exact b.free c o' e1 (a.free c ob q n hx) hx
 there := fun c ob q hx => by
  obtain ⟨o', e1⟩ := a.there c ob q hx
  exact b.there c o' e1 hx
 tups := fun c xs q => b.tups c xs (a.tups c xs q)
 frzs := fun c ob xs q => b.frzs c ob xs (a.frzs c ob xs q)
 tbls := fun c n q => b.tbls c n (a.tbls c n q)
theorem Un.kept (k : ∀ b u, h.get? b = some u → h'.get? b = some u) : Un fs ex H H h h' :=
 ⟨fun b ob q _ _ _ => k b ob q, fun b ob q _ _ _ => ⟨ob.slots, k b ob q⟩, fun _ _ _ n _ => n, fun b ob q _ => ⟨ob, k b ob q⟩, fun _ _ q => q, fun _ _ _ q => q, fun _ _ q => q⟩
theorem Un.refl : Un fs ex H H h h := Un.kept fun _ _ q => q
theorem Un.laid (k : ∀ b u, h.get? b = some u → h'.get? b = some u) (hp : h.objs.size ≤ a) (hn : H a = none) : Un fs ex H (upd H a o) h h' where
 keep := fun b u q _ _ _ => k b u q
 slot := fun b u q _ _ _ => ⟨u.slots, k b u q⟩
 free := fun b u q n _ => by rw [upd_ne (Nat.ne_of_lt (Nat.lt_of_lt_of_le (Heap.lt_size q) hp))]; exact n
 there := fun b u q _ => ⟨u, k b u q⟩
 tups := fun b xs q => by rw [upd_ne (ne_of_none q hn)]; exact q
 frzs := fun b u xs q => by rw [upd_ne (ne_of_none q hn)]; exact q
 tbls := fun b n q => by rw [upd_ne (ne_of_none q hn)]; exact q
theorem Un.write (mu : Mut (H x)) (he : e = x ∨ H e = some (.own x)) (k : ∀ b u, b ≠ e → h.get? b = some u → h'.get? b = some u) (heo : ∃ u, h'.get? e = some u) : Un fs ex H (upd H x o) h h' := by
 have hx : ∀ b, H b = none → b ≠ x := fun b n z => by subst z; rw [n] at mu; exact mu
 have hb : ∀ b, H b = none → b ≠ e := fun b n z => by
  subst z
  rcases he with r | r
  ·exact hx b n r
  ·rw [n] at r; cases r
 have hm : ∀ b u, H b = some u → ¬ Mut (some u) → b ≠ x := fun b u q nm z => by subst z; rw [q] at mu; exact nm mu
 refine ⟨fun b u q n _ _ => k b u (hb b n) q, fun b u q n _ _ => ⟨u.slots, k b u (hb b n) q⟩, fun b u q n _ => by rw [upd_ne (hx b n)]; exact n, fun b u q _ => ?_,
  fun b xs q => by rw [upd_ne (hm b _ q fun z => z)]; exact q, fun b u xs q => by rw [upd_ne (hm b _ q fun z => z)]; exact q, fun b n q => by rw [upd_ne (hm b _ q fun z => z)]; exact q⟩
 by_cases hbe : b = e
 ·subst hbe; exact heo
 ·exact ⟨u, k b u hbe q⟩
theorem Un.mono (u : Un fs ex H H1 h h1) (hs : ∀ b ∈ fs, b ∈ fs') (hx : ∀ b ∈ ex, b ∈ ex') : Un fs' ex' H H1 h h1 :=
 ⟨fun b ob q n hb he => u.keep b ob q n (fun z => hb (hs b z)) fun z => he (hx b z), fun _ _ q n _ he => u.any q n fun z => he (hx _ z), fun b ob q n he => u.free b ob q n fun z => he (hx b z), fun b ob q he => u.there b ob q fun z => he (hx b z), u.tups, u.frzs, u.tbls⟩
end
def trk (h : Heap) (H : Hp) : List Addr := (List.range h.objs.size).filter fun a => (H a).isSome
def hidT (h : Heap) (H : Hp) : Heap := PySem.W.hideAll h (trk h H)
theorem hidT_size (h : Heap) (H : Hp) : (hidT h H).objs.size = h.objs.size := PySem.W.hideAll_size _ _
theorem hidT_get {h : Heap} {H : Hp} {b : Addr} {o : Obj} (e : h.get? b = some o) (n : H b = none) : (hidT h H).get? b = some o :=
 PySem.W.hideAll_get _ e fun hm => by
  have q : (H b).isSome = true := (List.mem_filter.mp hm).2
  rw [n] at q; simp at q
theorem of_hidT {h : Heap} {H : Hp} {b : Addr} {o : Obj} (e : (hidT h H).get? b = some o) : h.get? b = some o ∧ H b = none := by
 have e' : h.get? b = some o := PySem.W.of_hideAll (trk h H) e
 refine ⟨e', ?_⟩
 cases q : H b with
 | none => rfl
 | some x =>
  have hm : b ∈ trk h H := List.mem_filter.mpr ⟨List.mem_range.mpr (Heap.lt_size e'), by simp [q]⟩
  have z : (hidT h H).get? b = none := PySem.W.hideAll_none (trk h H) hm
  rw [z] at e; cases e
def allNews (g h : Heap) (L : Addr) : List (Addr × Obj) := (List.range h.objs.size).filterMap fun a => if a = L ∨ (g.get? a).isSome = true then none else (h.get? a).map fun o => (a, o)
def rest (g h : Heap) (L d : Addr) : List (Addr × Obj) := (allNews g h L).filter fun p => decide (p.1 ≠ d)
structure Mod (K : PySem.W.Frag) (mg : Str → Option Value) (base : Heap) : Prop where
 kin : K.In base
 glob : base.Ns mainGlobals mg
 blt : ∃ mb, base.Ns builtinsNs mb ∧ ∀ x : Str, x ≠ "__name__" → mb x = bootBuiltins x
 nolimit : base.NoLimit
structure Cx where
 prog : Program
 w : World
 K : PySem.W.Frag
 mg : Str → Option Value
 base : Heap
 A : Around
 N : List Str
 s₀ : Shared
 H₀ : Hp
 env : Env
 outer : List Env
 stack : List Env
 ex : List Addr
 fn : Str → Bool
 calm : Bool
 pn : List (Addr × Obj)
 xe : Value → Shared → Prop
def frs (l : List Env) : List Addr := l.filterMap (·.frame)
abbrev Cx.fs (X : Cx) : List Addr := frs X.outer
def Vis (sc : Scope) (x : Str) : Prop := sc.names.lookup x = some .local ∨ sc.names.lookup x = some .cell ∨ sc.names.lookup x = some .free
def Loc (sc : Scope) (x : Str) : Prop := sc.names.lookup x = some .local ∨ sc.names.lookup x = some .cell
def Look (env : Env) (h : Heap) (m : Str → Option Value) (x : Str) (u : Value) : Prop :=
 (env.kindOf x = some .local ∧ m x = some u) ∨ ((env.kindOf x = some .cell ∨ env.kindOf x = some .free) ∧ ∃ c, env.cells.lookup x = some c ∧ h.IsCell c (some u))
structure Cx.Ok (X : Cx) : Prop where
 mod : Mod X.K X.mg X.base
 kind : X.env.scope.kind = .function
 glob : X.env.globals = mainGlobals
 blt : X.env.builtins = builtinsNs
 above : X.s₀.heap.objs.size ≤ X.env.locals
 inj : ∀ x y c, X.env.cells.lookup x = some c → X.env.cells.lookup y = some c → x = y
 has : ∀ x, (X.env.kindOf x = some .cell ∨ X.env.kindOf x = some .free) → ∃ c, X.env.cells.lookup x = some c
 cab : ∀ x c, X.fn x = true → X.env.cells.lookup x = some c → X.s₀.heap.objs.size ≤ c
 hd : X.calm = true → X.A.handled = none
 frames : X.A.frames = some X.stack
 stk : X.stack = X.outer ∨ (X.stack = X.env :: X.outer ∧ X.env.frame = some X.env.locals)
 exf : ∀ b ∈ X.ex, b ≠ X.env.locals ∧ ∀ x c, X.env.cells.lookup x = some c → c ≠ b
 bs : ∀ b o, X.base.get? b = some o → X.s₀.heap.get? b = some o ∧ X.H₀ b = none
 bsz : X.base.objs.size ≤ X.s₀.heap.objs.size
 noex : ∀ b o, X.base.get? b = some o → b ∉ X.ex
 exfs : ∀ b ∈ X.ex, b ∉ X.fs
 funs : X.s₀.heap.FunFrames X.base X.outer
 frf : ∀ b ∈ X.fs, X.H₀ b = none
structure Inv (X : Cx) (pins : List (Addr × Obj)) (σ : List (Option V)) (H : Hp) (s : Shared) : Prop where
 ok : X.Ok
 os : s.os = X.s₀.os
 bare : AllBare s.gens
 base : Un X.fs X.ex X.H₀ H X.s₀.heap s.heap
 loc : ∃ m, s.heap.Ns X.env.locals m ∧ ∀ (i : Nat) (x : Str) (v : V), X.N[i]? = some x → σ[i]? = some (some v) → Vis X.env.scope x → ∃ u, RelV v u ∧ Look X.env s.heap m x u
 cell : ∀ x c, X.env.cells.lookup x = some c → ∃ v, s.heap.IsCell c v
 free : H X.env.locals = none
 freeC : ∀ x c, X.env.cells.lookup x = some c → H c = none
 pin : ∀ p ∈ X.pn ++ pins, s.heap.get? p.1 = some p.2 ∧ H p.1 = none ∧ p.1 ≠ X.env.locals ∧ p.1 ∉ X.fs ∧ ∀ v, p.2.data ≠ .cell v
 hok : HOk X.prog X.w H s.heap
 len : σ.length = X.N.length
 tk : 0 < s.toks
section
variable {X : Cx} {pins : List (Addr × Obj)} {σ : List (Option V)} {H H' : Hp} {s : Shared} {h' : Heap}
theorem Cx.Ok.nofr (ok : X.Ok) {b : Addr} {o : Obj} (e : X.base.get? b = some o) : b ∉ X.fs := fun hb => by
 have := (ok.funs.mem hb).1
 rw [e] at this; cases this
theorem Inv.bs (I : Inv X pins σ H s) : ∀ b o, X.base.get? b = some o → s.heap.get? b = some o ∧ H b = none := fun b o e =>
 ⟨I.base.keep b o (I.ok.bs b o e).1 (I.ok.bs b o e).2 (I.ok.nofr e) (I.ok.noex b o e), I.base.free b o (I.ok.bs b o e).1 (I.ok.bs b o e).2 (I.ok.noex b o e)⟩
theorem Inv.bk (I : Inv X pins σ H s) : ∀ b o, X.base.get? b = some o → s.heap.get? b = some o := fun b o e => (I.bs b o e).1
theorem Inv.mod (I : Inv X pins σ H s) : Mod X.K X.mg X.base := I.ok.mod
theorem Inv.kIn (I : Inv X pins σ H s) : X.K.In s.heap := I.ok.mod.kin.keeps I.bk
theorem Inv.nolimit (I : Inv X pins σ H s) : s.heap.NoLimit := I.ok.mod.nolimit.keeps I.bk
theorem Inv.fr (I : Inv X pins σ H s) : ∃ m, Fr X.base X.env.locals s.heap m :=
 let ⟨m, hn, _⟩ := I.loc
 ⟨m, hn, I.bk, Nat.le_trans I.ok.bsz I.ok.above⟩
theorem Inv.lt (I : Inv X pins σ H s) : X.env.locals < s.heap.objs.size := let ⟨_, hn, _⟩ := I.loc; hn.lt
theorem Inv.sz (I : Inv X pins σ H s) : X.s₀.heap.objs.size ≤ s.heap.objs.size := Nat.le_trans I.ok.above (Nat.le_of_lt I.lt)
theorem Inv.nofs (I : Inv X pins σ H s) {a : Addr} (h : s.heap.objs.size ≤ a) : a ∉ X.fs := fun hb => by
 obtain ⟨_, o, ho, _⟩ := I.ok.funs.mem hb
 exact absurd (Nat.lt_of_lt_of_le (Heap.lt_size ho) (Nat.le_trans I.sz h)) (Nat.lt_irrefl _)
theorem Inv.cne (I : Inv X pins σ H s) : ∀ x c, X.env.cells.lookup x = some c → c ≠ X.env.locals := fun x c e z => by
 obtain ⟨v, o, ho, hd⟩ := I.cell x c e
 obtain ⟨m, ⟨o', es, ep, ho', hd', _⟩, _⟩ := I.loc
 rw [z, ho'] at ho; cases ho; rw [hd'] at hd; cases hd
theorem Inv.funs (I : Inv X pins σ H s) : s.heap.FunFrames X.base X.outer := by
 have all : ∀ (l : List Env), (∀ b ∈ frs l, b ∈ X.fs) → X.s₀.heap.FunFrames X.base l → s.heap.FunFrames X.base l := by
  intro l
  induction l with
  | nil => intro _ _; trivial
  | cons env r ih =>
   intro hs hl
   obtain ⟨hk, ⟨L, o, hf, hn, ho, hd⟩, hr⟩ := hl
   have hL : L ∈ X.fs := hs L (by unfold frs; rw [List.filterMap_cons, hf]; exact List.mem_cons_self)
   obtain ⟨sl, e⟩ := I.base.slot L o ho (I.ok.frf L hL) hL fun z => I.ok.exfs L z hL
   exact ⟨hk, ⟨L, _, hf, hn, e, hd⟩, ih (fun b hb => hs b (by unfold frs; rw [List.filterMap_cons, hf]; exact List.mem_cons_of_mem _ hb)) hr⟩
 exact all X.outer (fun _ hb => hb) I.ok.funs
theorem Inv.stack (I : Inv X pins σ H s) : s.heap.FunFrames X.base X.stack := by
 rcases I.ok.stk with e | ⟨e, hf⟩
 ·rw [e]; exact I.funs
 ·rw [e]
  obtain ⟨m, hn, _⟩ := I.loc
  refine .cons (by rw [I.ok.kind]; decide) hf hn ?_ I.funs
  exact Heap.get?_none_of_le (Nat.le_trans I.ok.bsz I.ok.above)
theorem Inv.stkSub (I : Inv X pins σ H s) : ∀ b ∈ frs X.stack, b ∈ X.env.locals :: X.fs := fun b hb => by
 rcases I.ok.stk with e | ⟨e, hf⟩
 ·rw [e] at hb; exact List.mem_cons_of_mem _ hb
 ·rw [e] at hb
  unfold frs at hb
  rw [List.filterMap_cons, hf] at hb
  exact hb
theorem Inv.stkFree (I : Inv X pins σ H s) : ∀ b ∈ frs X.stack, H b = none := fun b hb => by
 rcases List.mem_cons.mp (I.stkSub b hb) with e | hb
 ·rw [e]; exact I.free
 ·obtain ⟨_, o, ho, _⟩ := I.ok.funs.mem hb
  exact I.base.free b o ho (I.ok.frf b hb) fun z => I.ok.exfs b z hb
theorem Inv.step {g' : Array GenState} {t' : Nat} {d' : Drawn} {ch : List Addr} (I : Inv X pins σ H s)
  (hch : ∀ b ∈ ch, (b ∈ X.ex ∨ X.s₀.heap.objs.size ≤ b) ∧ b ≠ X.env.locals ∧ (∀ x c, X.env.cells.lookup x = some c → c ≠ b) ∧ ∀ p ∈ X.pn ++ pins, p.1 ≠ b)
  (keep : ∀ b o, b ≠ X.env.locals → b ∉ X.fs → b ∉ ch → s.heap.get? b = some o → H b = none → h'.get? b = some o)
  (slot : ∀ b o, b ≠ X.env.locals → b ∈ X.fs → b ∉ ch → s.heap.get? b = some o → H b = none → ∃ sl, h'.get? b = some { o with slots := sl }) (free : ∀ b o, b ∉ ch → s.heap.get? b = some o → H b = none → H' b = none)
  (there : ∀ b o, b ∉ ch → s.heap.get? b = some o → ∃ o', h'.get? b = some o')
  (tups : ∀ b xs, H b = some (.tup xs) → H' b = some (.tup xs)) (frzs : ∀ b o u, H b = some (.frz o u) → H' b = some (.frz o u)) (tbls : ∀ b q, H b = some (.tbl q) → H' b = some (.tbl q))
  (ns : ∀ m, s.heap.Ns X.env.locals m → h'.Ns X.env.locals m) (hok : HOk X.prog X.w H' h') (hg : AllBare g') (ht : 0 < t' := by first | assumption | exact Inv.tk (by assumption)) :
  Inv X pins σ H' { s with heap := h', gens := g', drawn := d', toks := t' } := by
 have neL : ∀ b o, X.s₀.heap.get? b = some o → b ≠ X.env.locals := fun b o e => Nat.ne_of_lt (Nat.lt_of_lt_of_le (Heap.lt_size e) I.ok.above)
 have neC : ∀ b o, X.s₀.heap.get? b = some o → b ∉ X.ex → b ∉ ch := fun b o e hx hb => by
  rcases (hch b hb).1 with z | z
  ·exact hx z
  ·exact absurd (Nat.lt_of_lt_of_le (Heap.lt_size e) z) (Nat.lt_irrefl _)
 have cellK : ∀ x c, X.env.cells.lookup x = some c → ∀ v, s.heap.IsCell c v → h'.IsCell c v := fun x c e v ⟨o, ho, hd⟩ => by
  have nch : c ∉ ch := fun z => (hch c z).2.2.1 x c e rfl
  by_cases hc : c ∈ X.fs
  ·obtain ⟨sl, q⟩ := slot c o (I.cne x c e) hc nch ho (I.freeC x c e)
   exact ⟨_, q, hd⟩
  ·exact ⟨o, keep c o (I.cne x c e) hc nch ho (I.freeC x c e), hd⟩
 refine ⟨I.ok, I.os, hg, ⟨fun b o e n hb hx => ?_, fun b o e n hb hx => ?_, fun b o e n hx => ?_, fun b o e hx => ?_, fun b xs e => tups b xs (I.base.tups b xs e), fun b o xs e => frzs b o xs (I.base.frzs b o xs e), fun b ps e => ?_⟩, ?_, fun x c e => ?_, ?_, fun x c e => ?_, fun p hp => ?_, hok, I.len, ht⟩
 ·exact keep b o (neL b o e) hb (neC b o e hx) (I.base.keep b o e n hb hx) (I.base.free b o e n hx)
 ·obtain ⟨sl, e1⟩ := I.base.slot b o e n hb hx
  obtain ⟨sl', e2⟩ := slot b _ (neL b o e) hb (neC b o e hx) e1 (I.base.free b o e n hx)
  exact ⟨sl', e2⟩
 ·obtain ⟨o', e1⟩ := I.base.there b o e hx
  exact free b o' (neC b o e hx) e1 (I.base.free b o e n hx)
 ·obtain ⟨o', e1⟩ := I.base.there b o e hx
  exact there b o' (neC b o e hx) e1
 ·exact tbls b ps (I.base.tbls b ps e)
 ·obtain ⟨m, hn, hl⟩ := I.loc
  refine ⟨m, ns m hn, fun i x v e1 e2 e3 => ?_⟩
  obtain ⟨u, r, l⟩ := hl i x v e1 e2 e3
  refine ⟨u, r, ?_⟩
  rcases l with l | ⟨k, c, e, z⟩
  ·exact .inl l
  ·exact .inr ⟨k, c, e, cellK x c e _ z⟩
 ·obtain ⟨v, z⟩ := I.cell x c e
  exact ⟨v, cellK x c e v z⟩
 ·obtain ⟨m, ⟨o, _, _, ho, _⟩, _⟩ := I.loc
  exact free _ o (fun z => (hch _ z).2.1 rfl) ho I.free
 ·obtain ⟨v, o, ho, hd⟩ := I.cell x c e
  exact free c o (fun z => (hch c z).2.2.1 x c e rfl) ho (I.freeC x c e)
 ·obtain ⟨e, n, ne, nf, d⟩ := I.pin p hp
  have nch : p.1 ∉ ch := fun z => (hch p.1 z).2.2.2 p hp rfl
  exact ⟨keep p.1 p.2 ne nf nch e n, free p.1 p.2 nch e n, ne, nf, d⟩
theorem Inv.un {t' : Nat} (I : Inv X pins σ H s) (u : Un X.fs [] H H' s.heap h') (hok : HOk X.prog X.w H' h') (ht : 0 < t' := by first | assumption | exact Inv.tk (by assumption)) : Inv X pins σ H' { s with heap := h', toks := t' } := by
 obtain ⟨m, ⟨o, es, ep, ho, r⟩, _⟩ := id I.loc
 obtain ⟨sl, hL⟩ := u.any ho I.free (by simp)
 exact I.step (g' := s.gens) (d' := s.drawn) (ch := []) (fun _ z => nomatch z) (fun b o _ hb _ e n => u.keep b o e n hb (by simp)) (fun b o _ hb _ e n => u.slot b o e n hb (by simp)) (fun b o _ e n => u.free b o e n (by simp)) (fun b o _ e => u.there b o e (by simp)) u.tups u.frzs u.tbls (fun m' hm => by
  obtain ⟨o', es', ep', ho', r'⟩ := hm
  rw [ho] at ho'; cases ho'
  exact ⟨_, es', ep', hL, r'⟩) hok I.bare
theorem Inv.call {g' : Array GenState} {t' : Nat} {d' : Drawn} {ch : List Addr} (I : Inv X pins σ H s) (u : Un (frs X.stack) ch H H' s.heap h') (hok : HOk X.prog X.w H' h') (hg : AllBare g')
  (hch : ∀ b ∈ ch, (b ∈ X.ex ∨ X.s₀.heap.objs.size ≤ b) ∧ b ≠ X.env.locals ∧ (∀ x c, X.env.cells.lookup x = some c → c ≠ b) ∧ ∀ p ∈ X.pn ++ pins, p.1 ≠ b) (ht : 0 < t' := by first | assumption | exact Inv.tk (by assumption)) :
  Inv X pins σ H' { s with heap := h', gens := g', drawn := d', toks := t' } := by
 obtain ⟨m, ⟨o, es, ep, ho, r⟩, _⟩ := id I.loc
 obtain ⟨sl, hL⟩ := u.any ho I.free fun z => (hch _ z).2.1 rfl
 exact I.step (ch := ch) hch (fun b o hL hb hc e n => u.keep b o e n (fun z => (List.mem_cons.mp (I.stkSub b z)).elim hL hb) hc) (fun b o _ _ hc e n => u.any e n hc) (fun b o hc e n => u.free b o e n hc) (fun b o hc e => u.there b o e hc) u.tups u.frzs u.tbls (fun m' hm => by
  obtain ⟨o', es', ep', ho', r'⟩ := hm
  rw [ho] at ho'; cases ho'
  exact ⟨_, es', ep', hL, r'⟩) hok hg
theorem Inv.turned {t' : Nat} {it : Addr} (I : Inv X pins σ H s) (k : ∀ b o, b ≠ it → s.heap.get? b = some o → h'.get? b = some o) (hn : H it = none) (hL : it ≠ X.env.locals)
  (h1 : it ∈ X.ex ∨ X.s₀.heap.objs.size ≤ it) (h2 : ∀ x c, X.env.cells.lookup x = some c → c ≠ it) (h3 : ∀ p ∈ X.pn ++ pins, p.1 ≠ it) (ht : 0 < t' := by first | assumption | exact Inv.tk (by assumption)) : Inv X pins σ H { s with heap := h', toks := t' } := by
 have nit : ∀ b u, H b = some u → b ≠ it := fun b u e z => by rw [z, hn] at e; cases e
 refine I.step (g' := s.gens) (d' := s.drawn) (ch := [it]) (fun b hb => ?_) (fun b o _ _ hc e _ => k b o (fun z => hc (by simp [z])) e) (fun b o _ _ hc e _ => ⟨o.slots, k b o (fun z => hc (by simp [z])) e⟩) (fun _ _ _ _ n => n)
  (fun b o hc e => ⟨o, k b o (fun z => hc (by simp [z])) e⟩) (fun _ _ e => e) (fun _ _ _ e => e) (fun b q e => e) (fun m hm => ?_) (fun b u e => ?_) I.bare
 ·have e : b = it := by simpa using hb
  subst e
  exact ⟨h1, hL, h2, h3⟩
 ·obtain ⟨o, es, ep, ho, r⟩ := hm
  exact ⟨o, es, ep, k _ o (Ne.symm hL) ho, r⟩
 ·refine (I.hok b u e).stay (fun c v hc q => k c v ?_ q) (fun _ q => q) fun _ _ q => q
  rcases hc with z | z
  ·rw [z]; exact nit b u e
  ·exact nit c _ z
theorem Inv.tok (I : Inv X pins σ H s) (t : Nat) (ht : 0 < t := by first | assumption | omega) : Inv X pins σ H { s with toks := t } := I.un (h' := s.heap) (t' := t) Un.refl I.hok
theorem Inv.kept {t' : Nat} (I : Inv X pins σ H s) (k : ∀ b u, s.heap.get? b = some u → h'.get? b = some u) (ht : 0 < t' := by first | assumption | exact Inv.tk (by assumption)) : Inv X pins σ H { s with heap := h', toks := t' } := I.un (Un.kept k) (I.hok.kept k)
theorem Inv.laid {a : Addr} {o : HO} {t' : Nat} (I : Inv X pins σ H s) (k : ∀ b u, s.heap.get? b = some u → h'.get? b = some u) (hp : s.heap.objs.size ≤ a) (new : ObjOk X.prog X.w (upd H a o) h' a o) (ht : 0 < t' := by first | assumption | exact Inv.tk (by assumption)) :
  Inv X pins σ (upd H a o) { s with heap := h', toks := t' } := I.un (Un.laid k hp (I.hok.fresh hp)) (I.hok.laid k hp new)
theorem Inv.write {x e : Addr} {o : HO} {t' : Nat} (I : Inv X pins σ H s) (mu : Mut (H x)) (he : e = x ∨ H e = some (.own x)) (k : ∀ b u, b ≠ e → s.heap.get? b = some u → h'.get? b = some u) (heo : ∃ u, h'.get? e = some u)
  (new : ObjOk X.prog X.w (upd H x o) h' x o) (ht : 0 < t' := by first | assumption | exact Inv.tk (by assumption)) : Inv X pins σ (upd H x o) { s with heap := h', toks := t' } := I.un (Un.write mu he k heo) (I.hok.write mu he k heo new)
theorem Inv.pins_of {pins' : List (Addr × Obj)} (I : Inv X pins σ H s) (h : ∀ p ∈ pins', s.heap.get? p.1 = some p.2 ∧ H p.1 = none ∧ p.1 ≠ X.env.locals ∧ p.1 ∉ X.fs ∧ ∀ v, p.2.data ≠ .cell v) : Inv X pins' σ H s :=
 ⟨I.ok, I.os, I.bare, I.base, I.loc, I.cell, I.free, I.freeC, fun p hp => (List.mem_append.mp hp).elim (fun z => I.pin p (List.mem_append_left _ z)) (h p), I.hok, I.len, I.tk⟩
theorem nodup_ix {N : List Str} (hN : N.Nodup) {i j : Nat} {x : Str} (a : N[i]? = some x) (b : N[j]? = some x) : i = j := by
 obtain ⟨h1, e1⟩ := List.getElem?_eq_some_iff.mp a
 obtain ⟨h2, e2⟩ := List.getElem?_eq_some_iff.mp b
 exact (List.getElem_inj hN).mp (e1.trans e2.symm)
theorem store_ok2 {M : Model} {A : Around} {E : Value → Shared → Prop} {i : Nat} {x : Str} {v : V} {u : Value} {Q : Unit → Shared → Prop} (I : Inv X pins σ H s) (hN : X.N.Nodup) (hi : X.N[i]? = some x) (hx : Loc X.env.scope x) (r : RelV v u)
  (h : ∀ s', Inv X pins (σ.set i (some v)) H s' → (∃ a, Heap.SameBut a s.heap s'.heap ∧ (a = X.env.locals ∨ X.env.cells.lookup x = some a)) → Q () s') (hf : X.fn x = true ∨ X.env.scope.names.lookup x = some .local := by first | exact .inl rfl | exact .inr rfl | assumption) : wpAny M A (storeName X.env x u) Q E s := by
 obtain ⟨m, hn, hl⟩ := id I.loc
 have hcls : (X.env.scope.kind == .class || (X.env.scope.kind == .module && X.env.locals != X.env.globals)) = false := by rw [I.ok.kind]; rfl
 have hiσ : i < σ.length := by rw [I.len]; exact (List.getElem?_eq_some_iff.mp hi).1
 have cne := I.cne
 have tracked : ∀ {a : Addr} {h' : Heap}, (∃ o, s.heap.get? a = some o ∧ H a = none) → Heap.SameBut a s.heap h' → HOk X.prog X.w H h' := fun {a h'} ha hs b ob e => by
  obtain ⟨_, _, hfree⟩ := ha
  refine (I.hok b ob e).stay (fun c w' hc q => (hs.2 c ?_).trans q) (fun _ q => q) fun _ _ q => q
  rintro rfl
  rcases hc with rfl | hc
  ·rw [hfree] at e; cases e
  ·rw [hfree] at hc; cases hc
 rcases hx with hk | hk
 ·refine wpAny_storeName_local hk hn (fun h' hn' hs => ?_) hcls
  obtain ⟨oL, _, _, hoL, _⟩ := id hn
  refine h { s with heap := h', toks := s.toks + 1 } ⟨I.ok, I.os, I.bare, ⟨fun b o e n hb hx => ?_, fun b o e n hb hx => ?_, I.base.free, fun b o e hx => ?_, I.base.tups, I.base.frzs, I.base.tbls⟩, ⟨_, hn', fun j y v' e1 e2 e3 => ?_⟩, fun y c e => ?_, I.free, I.freeC, fun p hp => ?_, tracked ⟨oL, hoL, I.free⟩ hs, by simpa using I.len, Nat.succ_pos _⟩ ⟨_, hs, .inl rfl⟩
  ·exact (hs.2 b (Nat.ne_of_lt (Nat.lt_of_lt_of_le (Heap.lt_size e) I.ok.above))).trans (I.base.keep b o e n hb hx)
  ·obtain ⟨sl, e1⟩ := I.base.slot b o e n hb hx
   exact ⟨sl, (hs.2 b (Nat.ne_of_lt (Nat.lt_of_lt_of_le (Heap.lt_size e) I.ok.above))).trans e1⟩
  ·obtain ⟨o', e1⟩ := I.base.there b o e hx
   exact ⟨o', (hs.2 b (Nat.ne_of_lt (Nat.lt_of_lt_of_le (Heap.lt_size e) I.ok.above))).trans e1⟩
  ·by_cases hj : j = i
   ·subst hj
    rw [hi] at e1; cases e1
    rw [List.getElem?_set_self hiσ] at e2
    cases e2
    exact ⟨u, r, .inl ⟨hk, by simp⟩⟩
   ·rw [List.getElem?_set_ne (Ne.symm hj)] at e2
    obtain ⟨u', r', q⟩ := hl j y v' e1 e2 e3
    refine ⟨u', r', ?_⟩
    rcases q with ⟨k, e⟩ | ⟨k, c, e, z⟩
    ·refine .inl ⟨k, ?_⟩
     have : y ≠ x := fun e => hj (nodup_ix hN e1 (e ▸ hi))
     simp [this, e]
    ·exact .inr ⟨k, c, e, z.sameBut hs (cne y c e)⟩
  ·obtain ⟨w', z⟩ := I.cell y c e
   exact ⟨w', z.sameBut hs (cne y c e)⟩
  ·obtain ⟨e, n, ne, nf, d⟩ := I.pin p hp
   exact ⟨(hs.2 p.1 ne).trans e, n, ne, nf, d⟩
 ·have hfn : X.fn x = true := by
   rcases hf with z | z
   ·exact z
   ·rw [z] at hk; cases hk
  obtain ⟨c, hc⟩ := I.ok.has x (.inl hk)
  obtain ⟨w', z⟩ := I.cell x c hc
  refine wpAny_storeName_cell I.ok.kind hk hc z (fun h' hc' hs => ?_)
  obtain ⟨oc, hoc, hocd⟩ := id z
  refine h { s with heap := h' } ⟨I.ok, I.os, I.bare, ⟨fun b o e n hb hx => ?_, fun b o e n hb hx => ?_, I.base.free, fun b o e hx => ?_, I.base.tups, I.base.frzs, I.base.tbls⟩, ⟨m, hn.sameBut hs (Ne.symm (cne x c hc)), fun j y v' e1 e2 e3 => ?_⟩, fun y c' e => ?_, I.free, I.freeC, fun p hp => ?_, tracked ⟨oc, hoc, I.freeC x c hc⟩ hs, by simpa using I.len, I.tk⟩ ⟨c, hs, .inr hc⟩
  ·exact (hs.2 b (Nat.ne_of_lt (Nat.lt_of_lt_of_le (Heap.lt_size e) (I.ok.cab x c hfn hc)))).trans (I.base.keep b o e n hb hx)
  ·obtain ⟨sl, e1⟩ := I.base.slot b o e n hb hx
   exact ⟨sl, (hs.2 b (Nat.ne_of_lt (Nat.lt_of_lt_of_le (Heap.lt_size e) (I.ok.cab x c hfn hc)))).trans e1⟩
  ·obtain ⟨o', e1⟩ := I.base.there b o e hx
   exact ⟨o', (hs.2 b (Nat.ne_of_lt (Nat.lt_of_lt_of_le (Heap.lt_size e) (I.ok.cab x c hfn hc)))).trans e1⟩
  ·by_cases hj : j = i
   ·subst hj
    rw [hi] at e1; cases e1
    rw [List.getElem?_set_self hiσ] at e2
    cases e2
    exact ⟨u, r, .inr ⟨.inl hk, c, hc, hc'⟩⟩
   ·rw [List.getElem?_set_ne (Ne.symm hj)] at e2
    obtain ⟨u', r', q⟩ := hl j y v' e1 e2 e3
    refine ⟨u', r', ?_⟩
    rcases q with q | ⟨k, c', e, z'⟩
    ·exact .inl q
    ·refine .inr ⟨k, c', e, z'.sameBut hs ?_⟩
     rintro rfl
     exact hj (nodup_ix hN e1 (I.ok.inj _ _ _ e hc ▸ hi))
  ·by_cases hcc : c' = c
   ·subst hcc; exact ⟨_, hc'⟩
   ·obtain ⟨w2, z2⟩ := I.cell y c' e
    exact ⟨w2, z2.sameBut hs hcc⟩
  ·obtain ⟨e, n, ne, nf, d⟩ := I.pin p hp
   refine ⟨(hs.2 p.1 ?_).trans e, n, ne, nf, d⟩
   intro q
   rw [q, hoc] at e
   have q' : oc = p.2 := Option.some.inj e
   exact d w' (by rw [← q']; exact hocd)
theorem store_ok {M : Model} {A : Around} {E : Value → Shared → Prop} {i : Nat} {x : Str} {v : V} {u : Value} {Q : Unit → Shared → Prop} (I : Inv X pins σ H s) (hN : X.N.Nodup) (hi : X.N[i]? = some x) (hx : Loc X.env.scope x) (r : RelV v u)
  (h : ∀ s', Inv X pins (σ.set i (some v)) H s' → Q () s') (hf : X.fn x = true ∨ X.env.scope.names.lookup x = some .local := by first | exact .inl rfl | exact .inr rfl | assumption) : wpAny M A (storeName X.env x u) Q E s :=
 store_ok2 I hN hi hx r (fun s' I' _ => h s' I') hf
theorem Inv.call' {s' : Shared} {ch : List Addr} (I : Inv X pins σ H s) (ho : s'.os = s.os) (u : Un (frs X.stack) ch H H' s.heap s'.heap) (hok : HOk X.prog X.w H' s'.heap) (hg : AllBare s'.gens)
  (hch : ∀ b ∈ ch, (b ∈ X.ex ∨ X.s₀.heap.objs.size ≤ b) ∧ b ≠ X.env.locals ∧ (∀ x c, X.env.cells.lookup x = some c → c ≠ b) ∧ ∀ p ∈ X.pn ++ pins, p.1 ≠ b) (ht : 0 < s'.toks := by first | assumption | exact Inv.tk (by assumption)) : Inv X pins σ H' s' := by
 obtain ⟨h', g', d', t', o'⟩ := s'
 have e : o' = s.os := ho
 subst e
 exact I.call (g' := g') (t' := t') (d' := d') u hok hg hch
end
abbrev XK := Value → Option Addr → Hp → Prop
abbrev St := List (Option V)
abbrev VK := V → Hp → Prop
abbrev TE := St → Hp → VK → Prop
abbrev TT := St → Hp → (Bool → Hp → Prop) → Prop
abbrev TA := St → Hp → (List V → Hp → Prop) → Prop
structure Ends where
 nx : St → Hp → Prop
 rt : VK
 bk : St → Hp → Prop := fun _ _ => False
 ct : St → Hp → Prop := fun _ _ => False
abbrev TS := Ends → St → Hp → Prop
def Lz {α : Type} (P : α → Shared → Prop) (a : α) (s' : Shared) : Prop := 0 < s'.toks → P a s'
def EPI (X : Cx) (pins : List (Addr × Obj)) (σ : St) (Q : VK) (u : Value) (s' : Shared) : Prop := ∃ v H', Inv X pins σ H' s' ∧ RelV v u ∧ Q v H'
abbrev EP (X : Cx) (pins : List (Addr × Obj)) (σ : St) (Q : VK) : Value → Shared → Prop := Lz (EPI X pins σ Q)
def TPI (X : Cx) (pins : List (Addr × Obj)) (σ : St) (Q : Bool → Hp → Prop) (b : Bool) (s' : Shared) : Prop := ∃ H', Inv X pins σ H' s' ∧ Q b H'
abbrev TP (X : Cx) (pins : List (Addr × Obj)) (σ : St) (Q : Bool → Hp → Prop) : Bool → Shared → Prop := Lz (TPI X pins σ Q)
def API (X : Cx) (pins : List (Addr × Obj)) (σ : St) (Q : List V → Hp → Prop) (us : List Value) (s' : Shared) : Prop := ∃ vs H', Inv X pins σ H' s' ∧ Vals vs us ∧ Q vs H'
abbrev AP (X : Cx) (pins : List (Addr × Obj)) (σ : St) (Q : List V → Hp → Prop) : List Value → Shared → Prop := Lz (API X pins σ Q)
def SPI (X : Cx) (pins : List (Addr × Obj)) (D : Ends) (f : Flow) (s' : Shared) : Prop :=
 match f with
 | .next => ∃ σ' H', Inv X pins σ' H' s' ∧ D.nx σ' H'
 | .brk => ∃ σ' H', Inv X pins σ' H' s' ∧ D.bk σ' H'
 | .cont => ∃ σ' H', Inv X pins σ' H' s' ∧ D.ct σ' H'
 | .ret u => ∃ v σ' H', Inv X pins σ' H' s' ∧ RelV v u ∧ D.rt v H'
abbrev SP (X : Cx) (pins : List (Addr × Obj)) (D : Ends) : Flow → Shared → Prop := Lz (SPI X pins D)
def PE (X : Cx) (e : Expr) (t : TE) : Prop :=
 ∀ (pins : List (Addr × Obj)) (s : Shared) (σ : St) (H : Hp) (Q : VK), Inv X pins σ H s → t σ H Q → wpAny (model X.prog X.w) X.A (eval e X.env) (EP X pins σ Q) X.xe s
def PT (X : Cx) (e : Expr) (t : TT) : Prop :=
 ∀ (pins : List (Addr × Obj)) (s : Shared) (σ : St) (H : Hp) (Q : Bool → Hp → Prop), Inv X pins σ H s → t σ H Q → wpAny (model X.prog X.w) X.A (isTrue e X.env (eval e X.env)) (TP X pins σ Q) X.xe s
def PW (X : Cx) (e : Expr) (t : TT) : Prop :=
 ∀ (whole : Sem Value) (pins : List (Addr × Obj)) (s : Shared) (σ : St) (H : Hp) (Q : Bool → Hp → Prop), Inv X pins σ H s → t σ H Q → wpAny (model X.prog X.w) X.A (isTrue e X.env whole) (TP X pins σ Q) X.xe s
theorem PW.pt {X : Cx} {e : Expr} {t : TT} (h : PW X e t) : PT X e t := h _
def PA (X : Cx) (es : List Expr) (t : TA) : Prop :=
 ∀ (pos : Pos) (pins : List (Addr × Obj)) (s : Shared) (σ : St) (H : Hp) (Q : List V → Hp → Prop), Inv X pins σ H s → t σ H Q → wpAny (model X.prog X.w) X.A (spliced (backTo pos (starEach es X.env))) (AP X pins σ Q) X.xe s
def PS (X : Cx) (st : Stmt) (t : TS) : Prop :=
 ∀ (pins : List (Addr × Obj)) (s : Shared) (σ : St) (H : Hp) (D : Ends), Inv X pins σ H s → t D σ H → wpAny (model X.prog X.w) X.A (exec st X.env) (SP X pins D) X.xe s
def PSs (X : Cx) (st : List Stmt) (t : TS) : Prop :=
 ∀ (pins : List (Addr × Obj)) (s : Shared) (σ : St) (H : Hp) (D : Ends), Inv X pins σ H s → t D σ H → wpAny (model X.prog X.w) X.A (execs st X.env) (SP X pins D) X.xe s
theorem thn0 {α : Type} {t : Sem α} {Q Q' : α → Shared → Prop} {M : Model} {A : Around} {E : Value → Shared → Prop} {s : Shared} (h : wpAny M A t Q E s) (hQ : ∀ a s, Q a s → Q' a s) : wpAny M A t Q' E s := wpAny_mono h hQ fun _ _ x => x
theorem thnT {α : Type} {t : Sem α} {P Q' : α → Shared → Prop} {prog : Program} {w : World} {A : Around} {E : Value → Shared → Prop} {s : Shared} (h : wpAny (model prog w) A t (Lz P) E s) (hQ : ∀ a s, 0 < s.toks → P a s → Q' a s) (ht : 0 < s.toks := by first | assumption | exact Inv.tk (by assumption)) : wpAny (model prog w) A t Q' E s :=
 wpAny_with_toks (n := 1) ht (wpAny_mono h (fun a s1 hp h1 => hQ a s1 h1 (hp h1)) fun _ _ x _ => x)
theorem thn {α : Type} {t : Sem α} {P Q' : α → Shared → Prop} {prog : Program} {w : World} {A : Around} {E : Value → Shared → Prop} {s : Shared} (h : wpAny (model prog w) A t (Lz P) E s) (hQ : ∀ a s, P a s → Q' a s) (ht : 0 < s.toks := by first | assumption | exact Inv.tk (by assumption)) : wpAny (model prog w) A t Q' E s :=
 wpAny_with_toks (n := 1) ht (wpAny_mono h (fun a s1 hp h1 => hQ a s1 (hp h1)) fun _ _ x _ => x)
section
variable {X : Cx}
def tVar (i : Nat) : TE := fun σ H Q => ∃ v, σ[i]? = some (some v) ∧ Q v H
def tC (v : V) : TE := fun _ H Q => Q v H
theorem pe_var {i : Nat} {x : Str} {pos : Pos} (hN : X.N[i]? = some x) (hv : Vis X.env.scope x) (hd : (x == ("__debug__" : Str)) = false := by decide) (hcd : (x == ("__classdict__" : Str)) = false := by decide) : PE X (.Name x pos) (tVar i) := by
 intro pins s σ H Q I h
 obtain ⟨v, e, h⟩ := h
 obtain ⟨m, hn, hl⟩ := I.loc
 obtain ⟨u, r, l⟩ := hl i x v hN e hv
 have fin : EP X pins σ Q u s := (fun ht => ⟨v, H, I, r, h⟩)
 rcases l with ⟨hk, hm⟩ | ⟨hk, c, hc, hcell⟩
 ·exact wpAny_Name (wpAny_loadName_local I.ok.kind hk hn hm fin) hd
 ·rcases hk with hk | hk
  ·exact wpAny_Name (wpAny_loadName_cell I.ok.kind hk hc hcell fin) hd
  ·exact wpAny_Name (wpAny_loadName_free I.ok.kind hk hc hcell fin hcd) hd
theorem pe_int {i j pos} : PE X (.Constant (.int i) j pos) (tC (.int i)) := fun _ _ _ H _ I h => wpAny_Constant_int (fun ht => ⟨.int i, H, I.tok _, ⟨_, rfl⟩, h⟩)
theorem pe_bl {b j pos} : PE X (.Constant (.bool b) j pos) (tC (.bl b)) := fun _ _ _ H _ I h => Constant_bool (fun ht => ⟨.bl b, H, I, rfl, h⟩)
theorem pe_non {j pos} : PE X (.Constant .none j pos) (tC .non) := fun _ _ _ H _ I h => Constant_none (fun ht => ⟨.non, H, I, rfl, h⟩)
theorem pe_str {x j pos} : PE X (.Constant (.str x) j pos) (tC (.str x)) := fun _ _ _ H _ I h => Calls.Constant_str (fun ht => ⟨.str x, H, I.tok _, ⟨_, rfl⟩, h⟩)
def Gl (X : Cx) (x : Str) : Prop := X.env.kindOf x = some .globalImplicit
theorem ld_glob {E : Value → Shared → Prop} {pins : List (Addr × Obj)} {s : Shared} {σ : St} {H : Hp} {x : Str} {u : Value} {pos : Pos} {Q : Value → Shared → Prop} (I : Inv X pins σ H s) (hg : Gl X x) (hm : X.mg x = some u) (h : Q u s)
  (hd : (x == ("__debug__" : Str)) = false := by decide) : wpAny (model X.prog X.w) X.A (eval (.Name x pos) X.env) Q E s :=
 Calls.Name_function_global I.ok.kind hg (Calls.loadGlobal_global (by rw [I.ok.glob]; exact I.mod.glob.keeps I.bk) hm h) hd
theorem ld_blt {E : Value → Shared → Prop} {pins : List (Addr × Obj)} {s : Shared} {σ : St} {H : Hp} {x : Str} {u : Value} {pos : Pos} {Q : Value → Shared → Prop} (I : Inv X pins σ H s) (hg : Gl X x) (hm : X.mg x = none) (hv : bootBuiltins x = some u) (h : Q u s)
  (hn : x ≠ "__name__" := by decide) (hd : (x == ("__debug__" : Str)) = false := by decide) : wpAny (model X.prog X.w) X.A (eval (.Name x pos) X.env) Q E s := by
 obtain ⟨mb, h1, h2⟩ := I.mod.blt
 exact Calls.Name_function_global I.ok.kind hg (Calls.loadGlobal_builtin (by rw [I.ok.glob]; exact I.mod.glob.keeps I.bk) hm (by rw [I.ok.blt]; exact h1.keeps I.bk) ((h2 x hn).trans hv) h) hd
theorem pe_glob {x : Str} {v : V} {u : Value} {pos : Pos} (hg : Gl X x) (hm : X.mg x = some u) (r : RelV v u) (hd : (x == ("__debug__" : Str)) = false := by decide) : PE X (.Name x pos) (tC v) :=
 fun _ _ _ H _ I h => ld_glob I hg hm (fun ht => ⟨v, H, I, r, h⟩) hd
theorem pe_bltn {x : Str} {v : V} {u : Value} {pos : Pos} (hg : Gl X x) (hm : X.mg x = none) (hv : bootBuiltins x = some u) (r : RelV v u) (hn : x ≠ "__name__" := by decide) (hd : (x == ("__debug__" : Str)) = false := by decide) : PE X (.Name x pos) (tC v) :=
 fun _ _ _ H _ I h => ld_blt I hg hm hv (fun ht => ⟨v, H, I, r, h⟩) hn hd
variable {a b : Expr} {ta tb : TE} {pos : Pos}
def tB (t : TE) : TT := fun σ H Q => t σ H fun x H1 => ∃ c, x = .bl c ∧ Q c H1
theorem pt_val {e : Expr} {t : TE} (h : PE X e t) (he : ∀ whole, isTrue e X.env whole = (do let v ← whole; standAt e.pos; holding [v] (truthy v)) := by intro _; rfl) : PT X e (tB t) := by
 intro pins s σ H Q I hw
 refine isTrue_plain (thn (h pins s σ H _ I hw) fun v s1 ⟨x, H1, I1, r1, q1⟩ => ?_) (he _)
 obtain ⟨d, rfl, q⟩ := q1
 cases r1
 exact wpAny_truthy_bool (fun ht => ⟨H1, I1, q⟩)
variable {tA tB' : TT} {rest : List Expr}
def tAnd (t u : TT) : TT := fun σ H Q => t σ H fun c H1 => if c = true then u σ H1 Q else Q false H1
def tNot (t : TT) : TT := fun σ H Q => t σ H fun c H1 => Q (!c) H1
theorem pw_and1 (ha : PT X a tA) : PW X (.BoolOp .And [a] pos) tA := by
 intro wh pins s σ H Q I h
 refine isTrue_and (thn (ha pins s σ H Q I h) fun c s1 e => ?_)
 cases c with
 | true => exact isTrue_and_nil (fun _ => e)
 | false => exact fun _ => e
theorem pw_and (ha : PT X a tA) (hb : PW X (.BoolOp .And (b :: rest) pos) tB') : PW X (.BoolOp .And (a :: b :: rest) pos) (tAnd tA tB') := by
 intro wh pins s σ H Q I h
 refine isTrue_and (thn (ha pins s σ H _ I h) fun c s1 ⟨H1, I1, q1⟩ => ?_)
 cases c with
 | true => exact hb wh pins s1 σ H1 Q I1 q1
 | false => exact (fun ht => ⟨H1, I1, q1⟩)
theorem pt_not (ha : PT X a tA) : PT X (.UnaryOp .Not a pos) (tNot tA) := by
 intro pins s σ H Q I h
 exact isTrue_not (ha pins s σ H (fun c H1 => Q (!c) H1) I h)
def tAndV (ta tb : TE) : TE := fun σ H Q => ta σ H fun x H1 => ∃ c, x = .bl c ∧ if c = true then tb σ H1 Q else Q (.bl false) H1
def tOrV (ta tb : TE) : TE := fun σ H Q => ta σ H fun x H1 => ∃ c, x = .bl c ∧ if c = true then Q (.bl true) H1 else tb σ H1 Q
theorem pe_one {op} {t : TE} (h : PE X a t) : PE X (.BoolOp op [a] pos) t := fun pins s σ H Q I hw => BoolOp_one (h pins s σ H Q I hw)
theorem pe_and (ha : PE X a ta) (hb : PE X (.BoolOp .And (b :: rest) pos) tb) : PE X (.BoolOp .And (a :: b :: rest) pos) (tAndV ta tb) := by
 intro pins s σ H Q I h
 refine BoolOp_and (thn (ha pins s σ H _ I h) fun v s1 ⟨x, H1, I1, r1, q1⟩ => ?_)
 obtain ⟨c, rfl, q1⟩ := q1
 cases r1
 refine wpAny_truthy_bool ?_
 cases c with
 | true => exact hb pins s1 σ H1 Q I1 q1
 | false => exact (fun ht => ⟨.bl false, H1, I1, rfl, q1⟩)
theorem pe_or (ha : PE X a ta) (hb : PE X (.BoolOp .Or (b :: rest) pos) tb) : PE X (.BoolOp .Or (a :: b :: rest) pos) (tOrV ta tb) := by
 intro pins s σ H Q I h
 refine BoolOp_or (thn (ha pins s σ H _ I h) fun v s1 ⟨x, H1, I1, r1, q1⟩ => ?_)
 obtain ⟨c, rfl, q1⟩ := q1
 cases r1
 refine wpAny_truthy_bool ?_
 cases c with
 | false => exact hb pins s1 σ H1 Q I1 q1
 | true => exact (fun ht => ⟨.bl true, H1, I1, rfl, q1⟩)
def tIf (t : TT) (ta tb : TE) : TE := fun σ H Q => t σ H fun c H1 => if c = true then ta σ H1 Q else tb σ H1 Q
theorem pe_ifExp {c : Expr} (hc : PT X c tA) (ha : PE X a ta) (hb : PE X b tb) : PE X (.IfExp c a b pos) (tIf tA ta tb) := by
 intro pins s σ H Q I h
 refine wpAny_IfExp (thn (hc pins s σ H _ I h) fun d s1 ⟨H1, I1, q1⟩ => ?_)
 cases d with
 | true => exact ha pins s1 σ H1 Q I1 q1
 | false => exact hb pins s1 σ H1 Q I1 q1
end
def SqL (K : PySem.W.Frag) (H : Hp) (a : Addr) (xs : List V) : Prop :=
 Rd H a (.lst xs) ∨
  ∃ (o : Obj) (its : Array Value) (n : Nat), K.lookup a = some o ∧ o.cls = .type "list" ∧ o.dict = none ∧ o.data = .seq its n ∧ its.size ≤ sizeLine ∧ Vals xs its.toList
def SqT (K : PySem.W.Frag) (H : Hp) (a : Addr) (xs : List V) : Prop :=
 Rd H a (.tup xs) ∨
  ∃ (o : Obj) (its : Array Value) (n : Nat), K.lookup a = some o ∧ o.cls = .type "tuple" ∧ o.data = .seq its n ∧ its.size ≤ sizeLine ∧ Vals xs its.toList
def absV : Value → Option V
 | .none => some .non
 | .bool b => some (.bl b)
 | .int i _ => some (.int i)
 | .str x _ => some (.str x)
 | .bytes b _ => some (.byt b)
 | .float b _ => some (.flt b)
 | .ref a => some (.ref a)
 | .type n => some (.ty n)
 | _ => none
theorem RelV.abs {x : V} {u : Value} (r : RelV x u) : absV u = some x := by
 cases x with
 | non => cases r; rfl
 | bl _ => cases r; rfl
 | int _ => obtain ⟨t, rfl⟩ := r; rfl
 | str _ => obtain ⟨t, rfl⟩ := r; rfl
 | byt _ => obtain ⟨t, rfl⟩ := r; rfl
 | flt _ => obtain ⟨t, rfl⟩ := r; rfl
 | ref _ => cases r; rfl
 | ty _ => cases r; rfl
theorem RelV.inj {x y : V} {u : Value} (r : RelV x u) (q : RelV y u) : x = y := Option.some.inj (r.abs.symm.trans q.abs)
theorem Vals.inj : ∀ {xs ys : List V} {us : List Value}, Vals xs us → Vals ys us → xs = ys
 | _, _, _, .nil, .nil => rfl
 | _, _, _, .cons r t, .cons r' t' => by rw [r.inj r', Vals.inj t t']
section
variable {X : Cx} {pins : List (Addr × Obj)} {σ : St} {H : Hp} {s : Shared} {a : Addr} {xs ys : List V}
theorem SqL.of {K : PySem.W.Frag} (h : H a = some (.lst xs)) : SqL K H a xs := .inl (.inl h)
theorem SqT.of {K : PySem.W.Frag} (h : H a = some (.tup xs)) : SqT K H a xs := .inl (.inl h)
theorem Inv.list (I : Inv X pins σ H s) (h : SqL X.K H a xs) : ∃ its : List Value, Vals xs its ∧ PlainL s.heap a its.toArray ∧ xs.length ≤ sizeLine := by
 rcases h with h | ⟨o, its, n, hk, hc, hd, hs, hz, r⟩
 ·obtain ⟨z, its, n, r, e⟩ := h.ok I.hok
  exact ⟨its, r, ⟨_, n, e, rfl, rfl, rfl⟩, z⟩
 ·refine ⟨its.toList, r, ⟨o, n, I.kIn a o hk, hc, hd, by simpa using hs⟩, ?_⟩
  have e := r.length
  simp only [Array.length_toList] at e
  omega
theorem Inv.tuple (I : Inv X pins σ H s) (h : SqT X.K H a xs) : ∃ its : List Value, Vals xs its ∧ IsTup s.heap a its.toArray ∧ xs.length ≤ sizeLine := by
 rcases h with h | ⟨o, its, n, hk, hc, hs, hz, r⟩
 ·obtain ⟨z, its, r, p⟩ := h.ok I.hok
  exact ⟨its, r, p, z⟩
 ·refine ⟨its.toList, r, ⟨o, I.kIn a o hk, hc, n, by simpa using hs⟩, ?_⟩
  have e := r.length
  simp only [Array.length_toList] at e
  omega
theorem Inv.list_inj (I : Inv X pins σ H s) (h : SqL X.K H a xs) (h' : SqL X.K H a ys) : xs = ys := by
 obtain ⟨its, r, ⟨o, n, e, _, _, d⟩, _⟩ := I.list h
 obtain ⟨its', r', ⟨o', n', e', _, _, d'⟩, _⟩ := I.list h'
 rw [e] at e'; cases e'
 rw [d] at d'
 injection d' with d1 _
 have : its = its' := by simpa using congrArg Array.toList d1
 subst this
 exact r.inj r'
theorem Inv.tuple_inj (I : Inv X pins σ H s) (h : SqT X.K H a xs) (h' : SqT X.K H a ys) : xs = ys := by
 obtain ⟨its, r, ⟨o, e, _, n, d⟩, _⟩ := I.tuple h
 obtain ⟨its', r', ⟨o', e', _, n', d'⟩, _⟩ := I.tuple h'
 rw [e] at e'; cases e'
 rw [d] at d'
 injection d' with d1 _
 have : its = its' := by simpa using congrArg Array.toList d1
 subst this
 exact r.inj r'
end
abbrev Cx.wish (X : Cx) (E : Value → Shared → Prop) : Cx := { X with xe := E }
abbrev Cx.nox (X : Cx) : Cx := X.wish fun _ _ => False
theorem Cx.Ok.wish {X : Cx} (ok : X.Ok) (E : Value → Shared → Prop) : (X.wish E).Ok :=
 ⟨ok.mod, ok.kind, ok.glob, ok.blt, ok.above, ok.inj, ok.has, ok.cab, ok.hd, ok.frames, ok.stk, ok.exf, ok.bs, ok.bsz, ok.noex, ok.exfs, ok.funs, ok.frf⟩
theorem Cx.Ok.unwish {X : Cx} {E : Value → Shared → Prop} (ok : (X.wish E).Ok) : X.Ok :=
 ⟨ok.mod, ok.kind, ok.glob, ok.blt, ok.above, ok.inj, ok.has, ok.cab, ok.hd, ok.frames, ok.stk, ok.exf, ok.bs, ok.bsz, ok.noex, ok.exfs, ok.funs, ok.frf⟩
section
variable {X : Cx} {pins : List (Addr × Obj)} {σ : St} {H : Hp} {s : Shared} {E : Value → Shared → Prop}
theorem Inv.wish (I : Inv X pins σ H s) (E : Value → Shared → Prop) : Inv (X.wish E) pins σ H s := ⟨I.ok.wish E, I.os, I.bare, I.base, I.loc, I.cell, I.free, I.freeC, I.pin, I.hok, I.len, I.tk⟩
theorem Inv.unwish (I : Inv (X.wish E) pins σ H s) : Inv X pins σ H s := ⟨I.ok.unwish, I.os, I.bare, I.base, I.loc, I.cell, I.free, I.freeC, I.pin, I.hok, I.len, I.tk⟩
theorem SP.unwish {D : Ends} {f : Flow} {s' : Shared} (h : SP (X.wish E) pins D f s') : SP X pins D f s' := fun ht => by
 have h := h ht
 cases f with
 | next => obtain ⟨σ', H', I, q⟩ := h; exact ⟨σ', H', I.unwish, q⟩
 | brk => obtain ⟨σ', H', I, q⟩ := h; exact ⟨σ', H', I.unwish, q⟩
 | cont => obtain ⟨σ', H', I, q⟩ := h; exact ⟨σ', H', I.unwish, q⟩
 | ret u => obtain ⟨v, σ', H', I, r, q⟩ := h; exact ⟨v, σ', H', I.unwish, r, q⟩
theorem PE.nox {e : Expr} {t : TE} (h : PE X.nox e t) : PE X e t := fun pins s σ H Q I hw =>
 wpAny_mono (h pins s σ H Q (I.wish _) hw) (fun _ _ z ht => let ⟨v, H', I', r, q⟩ := z ht; ⟨v, H', I'.unwish, r, q⟩) fun _ _ z => False.elim z
theorem PT.nox {e : Expr} {t : TT} (h : PT X.nox e t) : PT X e t := fun pins s σ H Q I hw =>
 wpAny_mono (h pins s σ H Q (I.wish _) hw) (fun _ _ z ht => let ⟨H', I', q⟩ := z ht; ⟨H', I'.unwish, q⟩) fun _ _ z => False.elim z
theorem PSs.nox {st : List Stmt} {t : TS} (h : PSs X.nox st t) : PSs X st t := fun pins s σ H D I hw =>
 wpAny_mono (h pins s σ H D (I.wish _) hw) (fun _ _ q => q.unwish) fun _ _ z => False.elim z
end
section
variable {X : Cx} {st : Stmt} {rest : List Stmt} {t u : TS} {e : Expr} {te : TE} {pos : Pos}
def tNext : TS := fun D σ H => D.nx σ H
def tSeq (t u : TS) : TS := fun D σ H => t { D with nx := u D } σ H
theorem pss_nil : PSs X [] tNext := fun _ _ σ H _ I h => wpAny_execs_nil (fun ht => ⟨σ, H, I, h⟩)
theorem pss_cons (h1 : PS X st t) (h2 : PSs X rest u) : PSs X (st :: rest) (tSeq t u) := by
 intro pins s σ H D I h
 refine wpAny_execs_cons (thn (h1 pins s σ H { D with nx := u D } I h) fun f s1 q => ?_)
 cases f with
 | next =>
  obtain ⟨σ', H', I', q⟩ := q
  exact h2 pins s1 σ' H' D I' q
 | ret v => exact fun _ => q
 | brk => exact fun _ => q
 | cont => exact fun _ => q
theorem pss_one (h1 : PS X st t) : PSs X [st] t := by
 intro pins s σ H D I h
 refine wpAny_execs_cons (thn (h1 pins s σ H D I h) fun f s1 q => ?_)
 cases f with
 | next => exact wpAny_execs_nil fun _ => q
 | ret v => exact fun _ => q
 | brk => exact fun _ => q
 | cont => exact fun _ => q
theorem Inv.quiet {pins : List (Addr × Obj)} {σ : St} {H : Hp} {s : Shared} (I : Inv X pins σ H s) : interactive X.env = false := by simp [interactive, I.ok.kind]
def tDrop (te : TE) : TS := fun D σ H => te σ H fun _ H1 => D.nx σ H1
theorem ps_expr (he : PE X e te) (hs : swapsWith e none pos.line X.env = pure false := by rfl) : PS X (.Expr e pos) (tDrop te) := by
 intro pins s σ H D I h
 exact wpAny_Expr_any (thn (he pins s σ H _ I h) fun v s1 ⟨x, H1, I1, r1, q1⟩ => (fun ht => ⟨σ, H1, I1, q1⟩)) I.quiet hs
def tRet (te : TE) : TS := fun D σ H => te σ H D.rt
theorem ps_ret (he : PE X e te) : PS X (.Return (some e) pos) (tRet te) := by
 intro pins s σ H D I h
 exact wpAny_Return_some (thn (he pins s σ H _ I h) fun v s1 ⟨x, H1, I1, r1, q1⟩ => (fun ht => ⟨x, σ, H1, I1, r1, q1⟩))
def tIfS (c : TT) (t u : TS) : TS := fun D σ H => c σ H fun b H1 => if b = true then t D σ H1 else u D σ H1
theorem ps_if {c : Expr} {a b : List Stmt} {tc : TT} (hc : PT X c tc) (ha : PSs X a t) (hb : PSs X b u) : PS X (.If c a b pos) (tIfS tc t u) := by
 intro pins s σ H D I h
 refine wpAny_If (thn (hc pins s σ H _ I h) fun d s1 ⟨H1, I1, q1⟩ => ?_)
 cases d with
 | true => exact ha pins s1 σ H1 D I1 q1
 | false => exact hb pins s1 σ H1 D I1 q1
end
abbrev TG := V → St → Hp → (St → Hp → Prop) → Prop
abbrev TGs := List V → St → Hp → (St → Hp → Prop) → Prop
def PG (X : Cx) (target : Expr) (t : TG) : Prop :=
 ∀ (pins : List (Addr × Obj)) (s : Shared) (σ : St) (H : Hp) (v : V) (u : Value) (Q : St → Hp → Prop), Inv X pins σ H s → RelV v u → t v σ H Q →
  wpAny (model X.prog X.w) X.A (assign target X.env u) (Lz fun _ s' => ∃ σ' H', Inv X pins σ' H' s' ∧ Q σ' H') X.xe s
def PGs (X : Cx) (ts : List Expr) (t : TGs) : Prop :=
 ∀ (pins : List (Addr × Obj)) (s : Shared) (σ : St) (H : Hp) (vs : List V) (us : List Value) (Q : St → Hp → Prop), Inv X pins σ H s → Vals vs us → t vs σ H Q →
  wpAny (model X.prog X.w) X.A (assignInOrder ((assignEach ts X.env).map (·.2)) us) (Lz fun _ s' => ∃ σ' H', Inv X pins σ' H' s' ∧ Q σ' H') X.xe s
section
variable {X : Cx} {pos : Pos}
def gName (i : Nat) : TG := fun v σ H Q => Q (σ.set i (some v)) H
theorem pg_name {i : Nat} {x : Str} (hN : X.N.Nodup) (hi : X.N[i]? = some x) (hx : Loc X.env.scope x) (hf : X.fn x = true ∨ X.env.scope.names.lookup x = some .local := by first | exact .inl rfl | exact .inr rfl | assumption) : PG X (.Name x pos) (gName i) := by
 intro pins s σ H v u Q I r h
 exact wpAny_assign_Name (store_ok I hN hi hx r (fun s' I' => (fun ht => ⟨_, H, I', h⟩)) hf)
def gNil : TGs := fun vs σ H Q => vs = [] ∧ Q σ H
def gCons (t : TG) (u : TGs) : TGs := fun vs σ H Q => ∃ v r, vs = v :: r ∧ t v σ H fun σ' H' => u r σ' H' Q
theorem pgs_nil : PGs X [] gNil := by
 intro pins s σ H vs us Q I r h
 obtain ⟨e, h⟩ := h
 subst e
 cases r
 exact assignInOrder_nil (fun ht => ⟨σ, H, I, h⟩)
theorem pgs_cons {e : Expr} {es : List Expr} {t : TG} {u : TGs} (h1 : PG X e t) (h2 : PGs X es u)
  (hs : (assignEach (e :: es) X.env).map (·.2) = assign e X.env :: (assignEach es X.env).map (·.2) := by rfl) : PGs X (e :: es) (gCons t u) := by
 intro pins s σ H vs us Q I r h
 obtain ⟨v, vr, e1, h⟩ := h
 subst e1
 cases r with
 | cons r rr =>
  rw [hs]
  refine assignInOrder_cons (thn (h1 pins s σ H _ _ _ I r h) fun _ s1 ⟨σ1, H1, I1, q1⟩ => ?_)
  exact h2 pins s1 σ1 H1 _ _ Q I1 rr q1
def gTup (K : PySem.W.Frag) (n : Nat) (t : TGs) : TG := fun v σ H Q => ∃ a xs, v = .ref a ∧ SqT K H a xs ∧ xs.length = n ∧ t xs σ H Q
theorem pg_tup {es : List Expr} {k : Nat} {t : TGs} {n : Nat} (hc : X.calm = true) (h : PGs X es t)
  (hn : (assignEach es X.env).length = n := by rfl) (hst : (assignEach es X.env).findIdx? (·.1) = none := by rfl) : PG X (.Tuple es k pos) (gTup X.K n t) := by
 intro pins s σ H v u Q I r hw
 obtain ⟨a, xs, e1, hq, hl, hw⟩ := hw
 subst e1
 cases r
 obtain ⟨its, rv, ht, hz⟩ := I.tuple hq
 refine assign_Tuple_tuple (I.ok.hd hc) ht (by simp [hn, ← hl, rv.length]) hst fun h' hx => ?_
 have I1 : Inv X pins σ H { s with heap := h' } := I.kept (t' := s.toks) fun b o e => hx b o (Nat.ne_of_lt (Heap.lt_size e)) e
 exact h pins _ σ H xs _ Q I1 (by simpa using rv) hw
def tAsg (te : TE) (g : TG) : TS := fun D σ H => te σ H fun x H1 => g x σ H1 D.nx
theorem ps_asg {tg e : Expr} {te : TE} {g : TG} (he : PE X e te) (hg : PG X tg g) (hs : swapsWithSole [tg] e pos.line X.env = pure false := by rfl) (hw : swappedStores [tg] e X.env = pure none := by rfl)
  (h1 : (assignEach [tg] X.env).map (·.2) = [assign tg X.env] := by rfl) : PS X (.Assign [tg] e pos) (tAsg te g) := by
 intro pins s σ H D I h
 refine wpAny_Assign_stores (thn (he pins s σ H _ I h) fun v s1 ⟨x, H1, I1, r1, q1⟩ => ?_) hs hw
 rw [h1]
 exact thn (hg pins s1 σ H1 x v _ I1 r1 q1) fun _ s2 q _ => q
theorem ps_set {i : Nat} {x : Str} {e : Expr} {te : TE} {pos' : Pos} (hN : X.N.Nodup) (hi : X.N[i]? = some x) (hx : Loc X.env.scope x) (he : PE X e te) (hs : swapsWith e (some (.Name x pos')) pos.line X.env = pure false := by rfl) (hf : X.fn x = true ∨ X.env.scope.names.lookup x = some .local := by first | exact .inl rfl | exact .inr rfl | assumption) :
  PS X (.Assign [.Name x pos'] e pos) (tAsg te (gName i)) := by
 intro pins s σ H D I h
 refine wpAny_Assign_Name (thn (he pins s σ H _ I h) fun v s1 ⟨y, H1, I1, r1, q1⟩ => ?_) hs
 exact store_ok I1 hN hi hx r1 (fun s2 I2 => (fun ht => ⟨_, H1, I2, q1⟩)) hf
end
structure It where
 go : Nat → Hp → Prop
 yld : Nat → Hp → V → Hp → Prop
 stop : Nat → Hp → Prop
def FpOk (X : Cx) (pins : List (Addr × Obj)) (H : Hp) (b : Addr) : Prop :=
 H b = none ∧ b ≠ X.env.locals ∧ b ∉ X.fs ∧ (b ∈ X.ex ∨ X.s₀.heap.objs.size ≤ b) ∧ (∀ x c, X.env.cells.lookup x = some c → c ≠ b) ∧ ∀ p ∈ X.pn ++ pins, p.1 ≠ b
theorem Inv.fpOk {X : Cx} {pins : List (Addr × Obj)} {σ : St} {H H' : Hp} {s : Shared} {b : Addr} (I : Inv X pins σ H s) (hb : s.heap.objs.size ≤ b) (hn : H' b = none) : FpOk X pins H' b := by
 refine ⟨hn, Nat.ne_of_gt (Nat.lt_of_lt_of_le I.lt hb), I.nofs hb, .inr (Nat.le_trans I.sz hb), fun x c e z => ?_, fun p hp z => ?_⟩
 ·obtain ⟨v, q⟩ := I.cell x c e
  exact absurd (Nat.lt_of_lt_of_le q.lt (by rw [z]; exact hb)) (Nat.lt_irrefl _)
 ·exact absurd (Nat.lt_of_lt_of_le (Heap.lt_size (I.pin p hp).1) (by rw [z]; exact hb)) (Nat.lt_irrefl _)
structure Turn (P : Program) (w : World) (K : PySem.W.Frag) (tg : Expr) (J : It) (fp : List Addr) (it : Addr) (tn : Nat → Heap → Prop) : Prop where
 mem : it ∈ fp
 obj : ∀ i h, tn i h → ∀ b ∈ fp, ∃ o, h.get? b = some o ∧ ∀ v, o.data ≠ .cell v
 keep : ∀ i h h', tn i h → (∀ b ∈ fp, ∀ o, h.get? b = some o → h'.get? b = some o) → tn i h'
 item : ∀ (X : Cx), X.prog = P → X.w = w → X.K = K → X.calm = true → ∀ (i : Nat) (pins : List (Addr × Obj)) (s : Shared) (σ : St) (H : Hp) (E : Value → Shared → Prop), Inv X pins σ H s → (∀ b ∈ fp, FpOk X pins H b) → tn i s.heap → J.go i H →
  wpAny (model P w) X.A (pyNext (.ref it)) (Lz fun r s1 => ∃ u, r = some u ∧
   wpAny (model P w) X.A (letOwnedTupleGo tg (.ref it) u) (Lz fun _ s2 => ∃ x H', Inv X pins σ H' s2 ∧ RelV x u ∧ J.yld i H x H' ∧ tn (i + 1) s2.heap ∧ ∀ b ∈ fp, H' b = none) E s1) E s
 done : ∀ (X : Cx), X.prog = P → X.w = w → X.K = K → X.calm = true → ∀ (i : Nat) (pins : List (Addr × Obj)) (s : Shared) (σ : St) (H : Hp) (E : Value → Shared → Prop), Inv X pins σ H s → (∀ b ∈ fp, FpOk X pins H b) → tn i s.heap → J.stop i H →
  wpAny (model P w) X.A (pyNext (.ref it)) (Lz fun r s1 => r = none ∧ Inv X pins σ H s1) E s
 self : ∀ (A : Around) (i : Nat) (s : Shared) (Q : Value → Shared → Prop) (E : Value → Shared → Prop), tn i s.heap → Q (.ref it) s → wpAny (model P w) A (pyIter (.ref it)) Q E s
abbrev TI := St → Hp → (It → Hp → Prop) → Prop
def PIE (X : Cx) (pins : List (Addr × Obj)) (σ : St) (tg : Expr) (R : It → Hp → Prop) (itv : Value) (s2 : Shared) : Prop :=
 ∃ (it : Addr) (fp : List Addr) (tn : Nat → Heap → Prop) (J : It) (H' : Hp), itv = .ref it ∧ Inv X pins σ H' s2 ∧ Turn X.prog X.w X.K tg J fp it tn ∧ tn 0 s2.heap ∧ (∀ b ∈ fp, FpOk X pins H' b) ∧ R J H'
def PI (X : Cx) (tg iter : Expr) (wi : TI) : Prop :=
 ∀ (pins : List (Addr × Obj)) (s : Shared) (σ : St) (H : Hp) (R : It → Hp → Prop), Inv X pins σ H s → wi σ H R →
  wpAny (model X.prog X.w) X.A (eval iter X.env) (Lz fun v s1 => wpAny (model X.prog X.w) X.A (pyIter v) (Lz (PIE X pins σ tg R)) X.xe s1) X.xe s
theorem go_of {M : Model} {A : Around} {E : Value → Shared → Prop} {s : Shared} {tg : Expr} {it : Addr} {u : Value} {o : Obj} {n : String} {vs : Array Value} {Q : Unit → Shared → Prop} (ho : s.heap.get? it = some o) (hc : o.cls = .type n) (hd : o.data = .fields vs)
  (hn : ["enumerate", "zip", "dict_itemiterator", "dict_reverseitemiterator", "odict_iterator", "itertools.zip_longest", "itertools.pairwise"].contains n = false) (hQ : Q () s) : wpAny M A (letOwnedTupleGo tg (.ref it) u) Q E s := by
 unfold letOwnedTupleGo
 cases tg <;> first
  | exact wpAny_pure hQ
  | (cases u <;> first
    | exact wpAny_pure hQ
    | (refine wpAny_bind (wpAny_load ho ?_)
       rw [hc, hd]
       show wpAny M A (if (["enumerate", "zip", "dict_itemiterator", "dict_reverseitemiterator", "odict_iterator", "itertools.zip_longest", "itertools.pairwise"].contains n && vs[0]? == some (rawInt _)) = true then _ else _) Q E s
       rw [if_neg (by intro h; rw [hn, Bool.false_and] at h; cases h)]
       exact wpAny_pure hQ))
def Itl (K : PySem.W.Frag) (a : Addr) : It :=
 ⟨fun i H => ∃ xs x, SqL K H a xs ∧ xs[i]? = some x, fun i H x H' => H' = H ∧ ∀ xs, SqL K H a xs → xs[i]? = some x, fun i H => ∃ xs, SqL K H a xs ∧ xs.length ≤ i⟩
def Itt (K : PySem.W.Frag) (a : Addr) : It :=
 ⟨fun i H => ∃ xs x, SqT K H a xs ∧ xs[i]? = some x, fun i H x H' => H' = H ∧ ∀ xs, SqT K H a xs → xs[i]? = some x, fun i H => ∃ xs, SqT K H a xs ∧ xs.length ≤ i⟩
def Itr (lo : Int) (n : Nat) : It := ⟨fun i _ => i < n, fun i H x H' => H' = H ∧ x = .int (lo + i), fun i _ => n ≤ i⟩
theorem turn_list {P : Program} {w : World} {K : PySem.W.Frag} {tg : Expr} (a it : Addr) : Turn P w K tg (Itl K a) [it] it (fun i h => h.IsListIter it a i) where
 mem := by simp
 obj := fun i h st b hb => by
  have e : b = it := by simpa using hb
  subst e
  obtain ⟨o, e, c, d⟩ := st
  exact ⟨o, e, fun v z => by rw [d] at z; cases z⟩
 keep := fun i h h' st k => st.at fun o e => k it (by simp) o e
 item := by
  intro X hP hw hK hc i pins s σ H E I hf st hg
  subst hP hw hK
  obtain ⟨xs, x, hq, hx⟩ := hg
  obtain ⟨its, rv, p, hz⟩ := I.list hq
  obtain ⟨u, hu, ru⟩ := rv.get hx
  obtain ⟨f0, f1, f2, f3, f4, f5⟩ := hf it (by simp)
  refine wpAny_pyNext_list_item st p.isList (x := u) (by simpa using hu) fun h' st' sb => ?_
  have I1 : Inv X pins σ H { s with heap := h' } := I.turned (t' := s.toks) (fun b o hb e => (sb.2 b hb).trans e) f0 f1 f3 f4 f5
  obtain ⟨o, e, c, d⟩ := id st'
  exact (fun ht => ⟨u, rfl, go_of (s := { s with heap := h' }) e c d (by decide) (fun ht => ⟨x, H, I1, ru, ⟨rfl, fun ys hy => by rw [I.list_inj hy hq]; exact hx⟩, st', fun b hb => (hf b hb).1⟩)⟩)
 done := by
  intro X hP hw hK hc i pins s σ H E I hf st hg
  subst hP hw hK
  obtain ⟨xs, hq, hx⟩ := hg
  obtain ⟨its, rv, p, hz⟩ := I.list hq
  obtain ⟨f0, f1, f2, f3, f4, f5⟩ := hf it (by simp)
  have hl := rv.length
  exact wpAny_pyNext_list_end (I.ok.hd hc) st p.isList (by simp; omega) fun h' eb => (fun ht => ⟨rfl, I.turned (t' := s.toks) (fun b o hb e => eb b o hb e) f0 f1 f3 f4 f5⟩)
 self := fun _ _ _ _ _ st h => wpAny_pyIter_listiter st h
theorem turn_tuple {P : Program} {w : World} {K : PySem.W.Frag} {tg : Expr} (a it : Addr) : Turn P w K tg (Itt K a) [it] it (fun i h => h.IsTupleIter it a i) where
 mem := by simp
 obj := fun i h st b hb => by
  have e : b = it := by simpa using hb
  subst e
  obtain ⟨o, e, c, d⟩ := st
  exact ⟨o, e, fun v z => by rw [d] at z; cases z⟩
 keep := fun i h h' st k => st.at fun o e => k it (by simp) o e
 item := by
  intro X hP hw hK hc i pins s σ H E I hf st hg
  subst hP hw hK
  obtain ⟨xs, x, hq, hx⟩ := hg
  obtain ⟨its, rv, p, hz⟩ := I.tuple hq
  obtain ⟨u, hu, ru⟩ := rv.get hx
  obtain ⟨f0, f1, f2, f3, f4, f5⟩ := hf it (by simp)
  refine wpAny_pyNext_tuple_item st (show s.heap.IsTuple a its.toArray from p) (x := u) (by simpa using hu) fun h' st' sb => ?_
  have I1 : Inv X pins σ H { s with heap := h' } := I.turned (t' := s.toks) (fun b o hb e => (sb.2 b hb).trans e) f0 f1 f3 f4 f5
  obtain ⟨o, e, c, d⟩ := id st'
  exact (fun ht => ⟨u, rfl, go_of (s := { s with heap := h' }) e c d (by decide) (fun ht => ⟨x, H, I1, ru, ⟨rfl, fun ys hy => by rw [I.tuple_inj hy hq]; exact hx⟩, st', fun b hb => (hf b hb).1⟩)⟩)
 done := by
  intro X hP hw hK hc i pins s σ H E I hf st hg
  subst hP hw hK
  obtain ⟨xs, hq, hx⟩ := hg
  obtain ⟨its, rv, p, hz⟩ := I.tuple hq
  obtain ⟨f0, f1, f2, f3, f4, f5⟩ := hf it (by simp)
  have hl := rv.length
  exact wpAny_pyNext_tuple_end (I.ok.hd hc) st (show s.heap.IsTuple a its.toArray from p) (by simp; omega) fun h' eb => (fun ht => ⟨rfl, I.turned (t' := s.toks) (fun b o hb e => eb b o hb e) f0 f1 f3 f4 f5⟩)
 self := fun _ _ _ _ _ st h => wpAny_pyIter_tupleiter st h
theorem turn_range {P : Program} {w : World} {K : PySem.W.Frag} {tg : Expr} (it : Addr) (lo : Int) (n : Nat) : Turn P w K tg (Itr lo n) [it] it (fun i h => IsRangeIter h it (lo + (i : Nat) * 1) ((n : Int) - (i : Nat)) 1) where
 mem := by simp
 obj := fun i h st b hb => by
  have e : b = it := by simpa using hb
  subst e
  exact ⟨_, st, fun v z => by
   have z' : Data.fields _ = Data.cell v := z
   cases z'⟩
 keep := fun i h h' st k => k it (by simp) _ st
 item := by
  intro X hP hw hK hc i pins s σ H E I hf st hg
  subst hP hw hK
  obtain ⟨f0, f1, f2, f3, f4, f5⟩ := hf it (by simp)
  have W := Walks.range (prog := X.prog) (w := X.w) (I.ok.hd hc) it lo 1 n
  refine W.item i s _ _ hg st fun v h' tk hv st' kk ht => ?_
  obtain ⟨t, rfl⟩ := hv
  have I1 : Inv X pins σ H { s with heap := h', toks := tk } := I.turned (fun b o hb e => kk b o (by simpa using hb) e) f0 f1 f3 f4 f5
  refine ⟨_, rfl, go_of (s := { s with heap := h', toks := tk }) (n := "range_iterator") st' rfl rfl (by decide) (fun ht => ⟨.int (lo + i), H, I1, ⟨t, by rw [Int.mul_one]⟩, ⟨rfl, rfl⟩, st', fun b hb => (hf b hb).1⟩)⟩
 done := by
  intro X hP hw hK hc i pins s σ H E I hf st hg
  subst hP hw hK
  obtain ⟨f0, f1, f2, f3, f4, f5⟩ := hf it (by simp)
  exact wpAny_pyNext_range_end (I.ok.hd hc) st (by have : n ≤ i := hg; omega) fun h' eb => (fun ht => ⟨rfl, I.turned (t' := s.toks) (fun b o hb e => eb b o hb e) f0 f1 f3 f4 f5⟩)
 self := fun _ _ _ _ _ st h => wpAny_pyIter_rangeiter st h
section
variable {X : Cx} {tg : Expr}
def iList (K : PySem.W.Frag) (tl : TE) : TI := fun σ H R => tl σ H fun x H1 => ∃ a, x = .ref a ∧ (∃ xs, SqL K H1 a xs) ∧ R (Itl K a) H1
def iTup (K : PySem.W.Frag) (tl : TE) : TI := fun σ H R => tl σ H fun x H1 => ∃ a, x = .ref a ∧ (∃ xs, SqT K H1 a xs) ∧ R (Itt K a) H1
theorem pi_list {l : Expr} {tl : TE} (hl : PE X l tl) : PI X tg l (iList X.K tl) := by
 intro pins s σ H R I h
 refine thn (hl pins s σ H _ I h) fun v s1 ⟨x, H1, I1, r1, q1⟩ => ?_
 obtain ⟨a, e, ⟨xs, hq⟩, q⟩ := q1
 subst e
 cases r1
 obtain ⟨its, rv, p, hz⟩ := I1.list hq
 refine fun _ => wpAny_pyIter_list p.isList fun _ => ?_
 refine ⟨s1.heap.objs.size, [s1.heap.objs.size], _, _, H1, rfl, I1.kept (t' := s1.toks) fun b o e => Heap.get?_push_of_some _ e, turn_list a _, ⟨_, Heap.get?_push_size _ rfl, rfl, rfl⟩, fun b hb => ?_, q⟩
 have e : b = s1.heap.objs.size := by simpa using hb
 subst e
 exact I1.fpOk (Nat.le_refl _) (I1.hok.fresh (Nat.le_refl _))
theorem pi_tup {l : Expr} {tl : TE} (hl : PE X l tl) : PI X tg l (iTup X.K tl) := by
 intro pins s σ H R I h
 refine thn (hl pins s σ H _ I h) fun v s1 ⟨x, H1, I1, r1, q1⟩ => ?_
 obtain ⟨a, e, ⟨xs, hq⟩, q⟩ := q1
 subst e
 cases r1
 obtain ⟨its, rv, p, hz⟩ := I1.tuple hq
 refine fun _ => wpAny_pyIter_tuple (show s1.heap.IsTuple a its.toArray from p) fun _ => ?_
 refine ⟨s1.heap.objs.size, [s1.heap.objs.size], _, _, H1, rfl, I1.kept (t' := s1.toks) fun b o e => Heap.get?_push_of_some _ e, turn_tuple a _, ⟨_, Heap.get?_push_size _ rfl, rfl, rfl⟩, fun b hb => ?_, q⟩
 have e : b = s1.heap.objs.size := by simpa using hb
 subst e
 exact I1.fpOk (Nat.le_refl _) (I1.hok.fresh (Nat.le_refl _))
theorem range_it {pins : List (Addr × Obj)} {σ : St} {H : Hp} {s : Shared} {R : It → Hp → Prop} {E : Value → Shared → Prop} {lo hi : Int} {t u v : Tok} {tk : Nat} (I : Inv X pins σ H s) (h1 : -(2 ^ 62) ≤ lo) (h2 : lo < 2 ^ 62) (h3 : -(2 ^ 62) ≤ hi) (h4 : hi < 2 ^ 62)
  (q : R (Itr lo (hi - lo).toNat) H) : wpAny (model X.prog X.w) X.A (pyIter (.ref s.heap.objs.size)) (Lz (PIE X pins σ tg R)) E { s with heap := s.heap.push { cls := .type "range", data := .fields #[.int lo t, .int hi u, .int 1 v] }, toks := tk } := by
 refine wpAny_pyIter_range (IsRange.new ..) (small_one h1 h2 h3 h4) fun ht => ?_
 have I1 : Inv X pins σ H { s with heap := s.heap.push { cls := .type "range", data := .fields #[.int lo t, .int hi u, .int 1 v] }, toks := tk } := I.kept fun b o e => Heap.get?_push_of_some _ e
 refine ⟨(s.heap.push { cls := .type "range", data := .fields #[.int lo t, .int hi u, .int 1 v] }).objs.size, [(s.heap.push { cls := .type "range", data := .fields #[.int lo t, .int hi u, .int 1 v] }).objs.size], _, _, H, rfl,
  I1.kept (t' := tk) fun b o e => Heap.get?_push_of_some _ e, turn_range _ lo (hi - lo).toNat, ?_, fun b hb => ?_, q⟩
 ·have e1 : lo + ((0 : Nat) : Int) * 1 = lo := by simp
  have e2 : (((hi - lo).toNat : Nat) : Int) - ((0 : Nat) : Int) = Builtin.Range.rangeSize lo hi 1 := by rw [rangeSize_one]; split <;> omega
  show IsRangeIter _ _ (lo + ((0 : Nat) : Int) * 1) ((((hi - lo).toNat : Nat) : Int) - ((0 : Nat) : Int)) 1
  rw [e1, e2]
  exact Heap.get?_push_size _ rfl
 ·have e : b = (s.heap.push { cls := .type "range", data := .fields #[.int lo t, .int hi u, .int 1 v] }).objs.size := by simpa using hb
  subst e
  exact I1.fpOk (Nat.le_refl _) (I1.hok.fresh (Nat.le_refl _))
def iRng1 (ta : TA) : TI := fun σ H R => ta σ H fun vs H1 => ∃ j : Int, vs = [.int j] ∧ -(2 ^ 62) ≤ j ∧ j < 2 ^ 62 ∧ R (Itr 0 j.toNat) H1
def iRng2 (ta : TA) : TI := fun σ H R => ta σ H fun vs H1 => ∃ i j : Int, vs = [.int i, .int j] ∧ (-(2 ^ 62) ≤ i ∧ i < 2 ^ 62 ∧ -(2 ^ 62) ≤ j ∧ j < 2 ^ 62) ∧ R (Itr i (j - i).toNat) H1
theorem pi_range1 {a : Expr} {ta : TA} {p pos : Pos} (hg : Gl X "range") (hm : X.mg "range" = none) (ha : PA X [a] ta) (hs : starEach [a] X.env = [(false, eval a X.env)] := by rfl) : PI X tg (.Call (.Name "range" p) [a] [] pos) (iRng1 ta) := by
 intro pins s σ H R I h
 refine Call_ (ld_blt I hg hm boot_range (PyProof.Rows.callWith_type1 (thn (ha pos pins s σ H _ I h) fun us s1 ⟨vs, H1, I1, r1, q1⟩ => ?_) hs rfl))
 obtain ⟨j, e, q1, q2, q⟩ := q1
 subst e
 cases r1 with
 | cons r rr =>
  cases rr
  obtain ⟨t, rfl⟩ := r
  exact call_range_1 (fun _ => range_it I1 (by omega) (by omega) q1 q2 (by simpa using q))
theorem pi_range2 {a b : Expr} {ta : TA} {p pos : Pos} (hg : Gl X "range") (hm : X.mg "range" = none) (ha : PA X [a, b] ta) (hs : starEach [a, b] X.env = [(false, eval a X.env), (false, eval b X.env)] := by rfl) (hs2 : starEach [b] X.env = [(false, eval b X.env)] := by rfl) :
  PI X tg (.Call (.Name "range" p) [a, b] [] pos) (iRng2 ta) := by
 intro pins s σ H R I h
 refine Call_ (ld_blt I hg hm boot_range (PyProof.Rows.callWith_type1 (thn (ha pos pins s σ H _ I h) fun us s1 ⟨vs, H1, I1, r1, q1⟩ => ?_) (by rw [hs, hs2]) (by rw [hs2]; rfl)))
 obtain ⟨i, j, e, ⟨q1, q2, q3, q4⟩, q⟩ := q1
 subst e
 cases r1 with
 | cons r rr =>
  cases rr with
  | cons r' rr =>
   cases rr
   obtain ⟨t, rfl⟩ := r
   obtain ⟨t', rfl⟩ := r'
   exact call_range_2 (fun _ => range_it I1 q1 q2 q3 q4 q)
def tFor (wi : TI) (g : TG) (tb : TS) : TS := fun D σ H => wi σ H fun J H1 => ∃ W : Nat → Nat → St → Hp → Prop, (∃ m, W 0 m σ H1) ∧ ∀ i m σ H, W i m σ H →
 (J.stop i H ∧ D.nx σ H) ∨ (J.go i H ∧ ∃ N : St → Hp → Prop, (∀ σ' H', N σ' H' → ∃ m', m' < m ∧ W (i + 1) m' σ' H') ∧ ∀ x H', J.yld i H x H' → g x σ H' fun σ2 H2 => tb { D with nx := N, ct := N, bk := D.nx } σ2 H2)
def pinsAt (fp : List Addr) (h : Heap) : List (Addr × Obj) := fp.filterMap fun b => (h.get? b).map fun o => (b, o)
theorem mem_pinsAt {fp : List Addr} {h : Heap} {b : Addr} {o : Obj} (hb : b ∈ fp) (e : h.get? b = some o) : (b, o) ∈ pinsAt fp h := List.mem_filterMap.mpr ⟨b, hb, by rw [e]; rfl⟩
theorem of_pinsAt {fp : List Addr} {h : Heap} {p : Addr × Obj} (hp : p ∈ pinsAt fp h) : p.1 ∈ fp ∧ h.get? p.1 = some p.2 := by
 obtain ⟨b, hb, e⟩ := List.mem_filterMap.mp hp
 cases q : h.get? b with
 | none => rw [q] at e; cases e
 | some o =>
  rw [q] at e
  have e' : (b, o) = p := Option.some.inj e
  subst e'
  exact ⟨hb, q⟩
theorem Inv.pinned {pins : List (Addr × Obj)} {σ : St} {H : Hp} {s : Shared} {fp : List Addr} (I : Inv X pins σ H s) (hf : ∀ b ∈ fp, FpOk X pins H b) (ho : ∀ b ∈ fp, ∃ o, s.heap.get? b = some o ∧ ∀ v, o.data ≠ .cell v) : Inv X (pins ++ pinsAt fp s.heap) σ H s :=
 I.pins_of fun p hp => (List.mem_append.mp hp).elim (fun z => I.pin p (List.mem_append_right _ z)) fun z => by
  obtain ⟨hb, e⟩ := of_pinsAt z
  obtain ⟨f0, f1, f2, _⟩ := hf p.1 hb
  obtain ⟨o, e', d⟩ := ho p.1 hb
  rw [e] at e'; cases e'
  exact ⟨e, f0, f1, f2, d⟩
theorem Inv.unpinned {pins pl : List (Addr × Obj)} {σ : St} {H : Hp} {s : Shared} (I : Inv X (pins ++ pl) σ H s) : Inv X pins σ H s := I.pins_of fun p hp => I.pin p (List.mem_append_right _ (List.mem_append_left _ hp))
theorem ps_for {iter : Expr} {body : List Stmt} {wi : TI} {g : TG} {tb : TS} {pos : Pos} (hp : PassesOwn (model X.prog X.w) X.A X.env X.xe) (hc : X.calm = true) (hi : PI X tg iter wi) (hg : PG X tg g) (hb : PSs X body tb)
  (hs : ∀ x, foldedSetIterable iter X.env x = pure x := by intro _; rfl) : PS X (.For tg iter body [] pos) (tFor wi g tb) := by
 intro pins s σ H D I h
 refine wpAny_For (thnT (hi pins s σ H _ I h) fun v s1 t1 h1 => thn h1 fun itv s2 h2 => ?_) hs
 obtain ⟨it, fp, tn, J, H2, e, I2, T, st2, f2, W, ⟨m0, w0⟩, turn⟩ := h2
 subst e
 have stat : ∀ {H' : Hp}, (∀ b ∈ fp, H' b = none) → ∀ b ∈ fp, FpOk X pins H' b := fun hn b hb => ⟨hn b hb, (f2 b hb).2⟩
 refine codeAny_forLoop_any (fun n s' => ∃ i σ' H', Inv X pins σ' H' s' ∧ tn i s'.heap ∧ (∀ b ∈ fp, H' b = none) ∧ W i n σ' H') ?_ m0 ⟨0, σ, H2, I2, st2, fun b hb => (f2 b hb).1, w0⟩
 rintro n s3 ⟨i, σ3, H3, I3, st3, fr3, w3⟩
 rcases turn i n σ3 H3 w3 with ⟨stop, qn⟩ | ⟨go, N, hN, step⟩
 ·refine wpAny_passesOwn hp (thn (T.done X rfl rfl rfl hc i pins s3 σ3 H3 X.xe I3 (stat fr3) st3 stop) fun r s4 ⟨hr, I4⟩ => ?_)
  subst hr
  exact wpAny_execs_nil (fun ht => ⟨σ3, H3, I4, qn⟩)
 ·refine wpAny_passesOwn hp (thnT (T.item X rfl rfl rfl hc i pins s3 σ3 H3 X.xe I3 (stat fr3) st3 go) fun r s4 ht4 ⟨u, hr, h4⟩ => ?_)
  subst hr
  refine wpAny_passesOwn hp (thn h4 fun _ s5 ⟨x, H5, I5, r5, y5, st5, fr5⟩ => ?_)
  have I5' := I5.pinned (stat fr5) (T.obj _ _ st5)
  refine wpAny_passesOwn hp (thn (hg _ s5 σ3 H5 x u _ I5' r5 (step x H5 y5)) fun _ s6 ⟨σ6, H6, I6, q6⟩ => ?_)
  refine wpAny_passesOwn hp (thn (hb _ s6 σ6 H6 _ I6 q6) fun f s7 q7 => ?_)
  have again : ∀ {σ7 : St} {H7 : Hp}, Inv X (pins ++ pinsAt fp s5.heap) σ7 H7 s7 → N σ7 H7 → ∃ m, m < n ∧ ∃ i σ' H', Inv X pins σ' H' s7 ∧ tn i s7.heap ∧ (∀ b ∈ fp, H' b = none) ∧ W i m σ' H' := fun {σ7 H7} I7 n7 => by
   obtain ⟨m', hm, w7⟩ := hN σ7 H7 n7
   refine ⟨m', hm, i + 1, σ7, H7, I7.unpinned, T.keep _ _ _ st5 fun b hb o e => (I7.pin (b, o) (List.mem_append_right _ (List.mem_append_right _ (mem_pinsAt hb e)))).1, fun b hb => ?_, w7⟩
   obtain ⟨o, e, d⟩ := T.obj _ _ st5 b hb
   exact (I7.pin (b, o) (List.mem_append_right _ (List.mem_append_right _ (mem_pinsAt hb e)))).2.1
  cases f with
  | next => obtain ⟨σ7, H7, I7, n7⟩ := q7; exact again I7 n7
  | cont => obtain ⟨σ7, H7, I7, n7⟩ := q7; exact again I7 n7
  | brk => obtain ⟨σ7, H7, I7, q7⟩ := q7; exact fun _ => ⟨σ7, H7, I7.unpinned, q7⟩
  | ret v => obtain ⟨x7, σ7, H7, I7, r7, q7⟩ := q7; exact fun _ => ⟨x7, σ7, H7, I7.unpinned, r7, q7⟩
end
theorem for_list {K : PySem.W.Frag} {a : Addr} {xs : List V} {g : TG} {tb : TS} {D : Ends} {σ : St} {H : Hp} (Pv : Nat → St → Hp → Prop) (h0 : Pv 0 σ H) (hl : ∀ i σ H, i ≤ xs.length → Pv i σ H → SqL K H a xs)
  (hs : ∀ i x σ H, xs[i]? = some x → Pv i σ H → g x σ H fun σ2 H2 => tb { D with nx := Pv (i + 1), ct := Pv (i + 1), bk := D.nx } σ2 H2) (hd : ∀ σ H, Pv xs.length σ H → D.nx σ H) :
  ∃ W : Nat → Nat → St → Hp → Prop, (∃ m, W 0 m σ H) ∧ ∀ i m σ H, W i m σ H →
   ((Itl K a).stop i H ∧ D.nx σ H) ∨ ((Itl K a).go i H ∧ ∃ N : St → Hp → Prop, (∀ σ' H', N σ' H' → ∃ m', m' < m ∧ W (i + 1) m' σ' H') ∧ ∀ x H', (Itl K a).yld i H x H' → g x σ H' fun σ2 H2 => tb { D with nx := N, ct := N, bk := D.nx } σ2 H2) := by
 refine ⟨fun i m σ H => m = xs.length - i ∧ i ≤ xs.length ∧ Pv i σ H, ⟨xs.length, by simp, Nat.zero_le _, h0⟩, ?_⟩
 rintro i m σ H ⟨rfl, hi, p⟩
 have q := hl i σ H hi p
 by_cases hlt : i < xs.length
 ·refine .inr ⟨⟨xs, xs[i], q, by simp [hlt]⟩, Pv (i + 1), fun σ' H' p' => ⟨xs.length - (i + 1), by omega, rfl, hlt, p'⟩, fun x H' y => ?_⟩
  obtain ⟨e, y⟩ := y
  subst e
  exact hs i x σ _ (y xs q) p
 ·have e : i = xs.length := by omega
  subst e
  exact .inl ⟨⟨xs, q, Nat.le_refl _⟩, hd σ H p⟩
abbrev R2 := V → V → Hp → VK → Prop
def OpR (X : Cx) (f : Value → Value → Sem Value) (r : R2) : Prop :=
 ∀ (pins : List (Addr × Obj)) (s : Shared) (σ : St) (H : Hp) (x y : V) (v u : Value) (Q : VK), Inv X pins σ H s → RelV x v → RelV y u → r x y H Q →
  wpAny (model X.prog X.w) X.A (f v u) (EP X pins σ Q) X.xe s
def UnR (X : Cx) (f : Value → Sem Value) (r : V → Hp → VK → Prop) : Prop :=
 ∀ (pins : List (Addr × Obj)) (s : Shared) (σ : St) (H : Hp) (x : V) (v : Value) (Q : VK), Inv X pins σ H s → RelV x v → r x H Q →
  wpAny (model X.prog X.w) X.A (f v) (EP X pins σ Q) X.xe s
def CallR (X : Cx) (f : Value) (r : List V → Hp → VK → Prop) : Prop :=
 ∀ (pins : List (Addr × Obj)) (s : Shared) (σ : St) (H : Hp) (xs : List V) (us : List Value) (Q : VK), Inv X pins σ H s → Vals xs us → r xs H Q →
  wpAny (model X.prog X.w) X.A (call f us) (EP X pins σ Q) X.xe s
def tOp (r : R2) (ta tb : TE) : TE := fun σ H Q => ta σ H fun x H1 => tb σ H1 fun y H2 => r x y H2 Q
def tUn (r : V → Hp → VK → Prop) (ta : TE) : TE := fun σ H Q => ta σ H fun x H1 => r x H1 Q
def rI (C : Int → Int → Prop) (g : Int → Int → V) : R2 := fun x y H Q => ∃ i j, x = .int i ∧ y = .int j ∧ C i j ∧ Q (g i j) H
def rI0 (g : Int → Int → V) : R2 := fun x y H Q => ∃ i j, x = .int i ∧ y = .int j ∧ Q (g i j) H
def rU (g : Int → V) : V → Hp → VK → Prop := fun x H Q => ∃ i, x = .int i ∧ Q (g i) H
section
variable {X : Cx} {a b c : Expr} {ta tb tc : TE} {pos : Pos}
theorem binT (ha : PE X a ta) (hb : PE X b tb) {pins : List (Addr × Obj)} {s : Shared} {σ : St} {H : Hp} {R : V → V → Hp → Prop} (I : Inv X pins σ H s)
  (h : ta σ H fun x H1 => tb σ H1 fun y H2 => R x y H2) {Q : Value → Shared → Prop} {f : Value → Value → Sem Value}
  (hf : ∀ v u s2 x y H2, Inv X pins σ H2 s2 → RelV x v → RelV y u → R x y H2 → wpAny (model X.prog X.w) X.A (f v u) Q X.xe s2) :
  wpAny (model X.prog X.w) X.A (eval a X.env) (fun v s₁ => wpAny (model X.prog X.w) X.A (eval b X.env) (fun u s₂ => wpAny (model X.prog X.w) X.A (f v u) Q X.xe s₂) X.xe s₁) X.xe s := by
 refine thn (ha pins s σ H _ I h) fun v s1 ⟨x, H1, I1, r1, q1⟩ => ?_
 refine thn (hb pins s1 σ H1 _ I1 q1) fun u s2 ⟨y, H2, I2, r2, q2⟩ => ?_
 exact hf v u s2 x y H2 I2 r1 r2 q2
theorem pe_op {op : Operator} {r : R2} (ho : OpR X (binaryOp op) r) (ha : PE X a ta) (hb : PE X b tb) : PE X (.BinOp a op b pos) (tOp r ta tb) := by
 intro pins s σ H Q I h
 exact wpAny_BinOp (binT ha hb I h fun v u s2 x y H2 I2 rx ry q => ho pins s2 σ H2 x y v u Q I2 rx ry q)
theorem pe_un {op : UnaryOp} {r : V → Hp → VK → Prop} (ho : UnR X (unaryOp op) r) (ha : PE X a ta) : PE X (.UnaryOp op a pos) (tUn r ta) := by
 intro pins s σ H Q I h
 exact UnaryOp_ (thn (ha pins s σ H _ I h) fun v s1 ⟨x, H1, I1, r1, q1⟩ => ho pins s1 σ H1 x v Q I1 r1 q1)
theorem opI {f : Value → Value → Sem Value} {C : Int → Int → Prop} {g : Int → Int → Int}
  (rule : ∀ (i j : Int) (t u : Tok) (s : Shared) (Q : Value → Shared → Prop) (E : Value → Shared → Prop), C i j → Q (.int (g i j) s.toks) { s with toks := s.toks + 1 } → wpAny (model X.prog X.w) X.A (f (.int i t) (.int j u)) Q E s) :
  OpR X f (rI C fun i j => .int (g i j)) := by
 intro pins s σ H x y v u Q I rx ry h
 obtain ⟨i, j, rfl, rfl, hc, q⟩ := h
 obtain ⟨t, rfl⟩ := rx
 obtain ⟨t', rfl⟩ := ry
 exact rule i j t t' s _ _ hc (fun ht => ⟨.int (g i j), H, I.tok _, ⟨_, rfl⟩, q⟩)
theorem opI0 {f : Value → Value → Sem Value} {g : Int → Int → Int}
  (rule : ∀ (i j : Int) (t u : Tok) (s : Shared) (Q : Value → Shared → Prop) (E : Value → Shared → Prop), Q (.int (g i j) s.toks) { s with toks := s.toks + 1 } → wpAny (model X.prog X.w) X.A (f (.int i t) (.int j u)) Q E s) :
  OpR X f (rI0 fun i j => .int (g i j)) := by
 intro pins s σ H x y v u Q I rx ry h
 obtain ⟨i, j, rfl, rfl, q⟩ := h
 obtain ⟨t, rfl⟩ := rx
 obtain ⟨t', rfl⟩ := ry
 exact rule i j t t' s _ _ (fun ht => ⟨.int (g i j), H, I.tok _, ⟨_, rfl⟩, q⟩)
theorem opB0 {f : Value → Value → Sem Value} {g : Int → Int → Bool}
  (rule : ∀ (i j : Int) (t u : Tok) (s : Shared) (Q : Value → Shared → Prop) (E : Value → Shared → Prop), Q (.bool (g i j)) s → wpAny (model X.prog X.w) X.A (f (.int i t) (.int j u)) Q E s) :
  OpR X f (rI0 fun i j => .bl (g i j)) := by
 intro pins s σ H x y v u Q I rx ry h
 obtain ⟨i, j, rfl, rfl, q⟩ := h
 obtain ⟨t, rfl⟩ := rx
 obtain ⟨t', rfl⟩ := ry
 exact rule i j t t' s _ _ (fun ht => ⟨.bl (g i j), H, I, rfl, q⟩)
def CDiv (i j : Int) : Prop := 0 < j ∧ j < 1073741824
def CPow (i j : Int) : Prop := 0 ≤ j ∧ j ≤ 1000000 ∧ i.natAbs < 2 ^ 64
def CMul (i j : Int) : Prop := (-(2 ^ 64) < i ∧ i < 2 ^ 64) ∨ (-(2 ^ 64) < j ∧ j < 2 ^ 64)
theorem CMul.ok {i j : Int} (h : CMul i j) : IntMulOk i j := by
 rcases h with ⟨h1, h2⟩ | ⟨h1, h2⟩
 ·exact .of_left (intBits_le_64 h1 h2)
 ·exact .of_right (intBits_le_64 h1 h2)
theorem two_pow_nn (k : Nat) : (0 : Int) ≤ 2 ^ k := by
 rw [two_pow_cast]
 exact Int.natCast_nonneg _
theorem op_add : OpR X (binaryOp .Add) (rI0 fun i j => .int (i + j)) := opI0 fun _ _ _ _ _ _ _ q => add_int q
theorem op_sub : OpR X (binaryOp .Sub) (rI0 fun i j => .int (i - j)) := opI0 fun _ _ _ _ _ _ _ q => sub_int q
theorem op_mul : OpR X (binaryOp .Mult) (rI CMul fun i j => .int (i * j)) := opI fun _ _ _ _ _ _ _ hc q => mul_int q hc.ok
theorem op_fdiv : OpR X (binaryOp .FloorDiv) (rI CDiv fun i j => .int (i / j)) := opI fun i j _ _ _ _ _ hc q => by
 have h1 : (0 : Int) < j := hc.1
 have h2 : j < 1073741824 := hc.2
 exact floordiv_int (by omega) (by rw [Int.fdiv_eq_ediv_of_nonneg i (by omega)]; exact q) (.inl (PyProof.noPylong_small (by omega)))
theorem op_mod : OpR X (binaryOp .Mod) (rI (fun _ j => 0 < j) fun i j => .int (i % j)) := opI fun i j _ _ _ _ _ hc q => by
 have h1 : (0 : Int) < j := hc
 exact mod_int' (by omega) (by rw [Int.fmod_eq_emod_of_nonneg i (by omega)]; exact q)
theorem op_shl : OpR X (binaryOp .LShift) (rI CPow fun i j => .int (i * 2 ^ j.toNat)) := opI fun _ _ _ _ _ _ _ hc q => lshift_int_small hc.1 hc.2.1 hc.2.2 q
theorem op_shr : OpR X (binaryOp .RShift) (rI (fun _ j => 0 ≤ j) fun i j => .int (i / 2 ^ j.toNat)) := opI fun i j _ _ _ _ _ hc q =>
 rshift_int hc (by rw [Int.fdiv_eq_ediv_of_nonneg i (two_pow_nn _)]; exact q)
theorem op_and : OpR X (binaryOp .BitAnd) (rI0 fun i j => .int (Builtin.bitAnd i j)) := opI0 fun _ _ _ _ _ _ _ q => and_int q
theorem unI {f : Value → Sem Value} {g : Int → Int}
  (rule : ∀ (i : Int) (t : Tok) (s : Shared) (Q : Value → Shared → Prop) (E : Value → Shared → Prop), Q (.int (g i) s.toks) { s with toks := s.toks + 1 } → wpAny (model X.prog X.w) X.A (f (.int i t)) Q E s) :
  UnR X f (rU fun i => .int (g i)) := by
 intro pins s σ H x v Q I rx h
 obtain ⟨i, rfl, q⟩ := h
 obtain ⟨t, rfl⟩ := rx
 exact rule i t s _ _ (fun ht => ⟨.int (g i), H, I.tok _, ⟨_, rfl⟩, q⟩)
theorem un_neg : UnR X (unaryOp .USub) (rU fun i => .int (-i)) := unI fun _ _ _ _ _ q => neg_int q
end
section
variable {X : Cx} {a b c : Expr} {ta tb tc : TE} {pos : Pos}
theorem fin_bl {pins : List (Addr × Obj)} {σ : St} {H : Hp} {s : Shared} {Q : VK} {k k' : Bool} (I : Inv X pins σ H s) (q : Q (.bl k) H) (e : k = k') : EP X pins σ Q (.bool k') s := by
 subst e
 exact (fun ht => ⟨.bl k, H, I, rfl, q⟩)
theorem op_lt : OpR X (compareOp .Lt) (rI0 fun i j => .bl (decide (i < j))) := opB0 fun _ _ _ _ _ _ _ q => lt_int q
theorem op_le : OpR X (compareOp .LtE) (rI0 fun i j => .bl (decide (i ≤ j))) := opB0 fun _ _ _ _ _ _ _ q => le_int q
theorem op_in_str : OpR X (compareOp .In) (fun x y H Q => ∃ i j, x = .str i ∧ y = .str j ∧ Q (.bl (!(Builtin.Str.occurrences j i 0 j.length 1).isEmpty)) H) := by
 intro pins s σ H x y v u Q I rx ry h
 obtain ⟨i, j, rfl, rfl, q⟩ := h
 obtain ⟨t, rfl⟩ := rx
 obtain ⟨t', rfl⟩ := ry
 exact in_str (fin_bl I q rfl)
theorem op_isN : OpR X (compareOp .Is) (fun x y H Q => y = .non ∧ Q (.bl (decide (x = .non))) H) := by
 intro pins s σ H x y v u Q I rx ry h
 obtain ⟨rfl, q⟩ := h
 cases ry
 refine is_none_gen (fin_bl I q ?_)
 cases x <;> first
  | (cases rx; rfl)
  | (obtain ⟨t, rfl⟩ := rx; rfl)
theorem op_notin_str : OpR X (compareOp .NotIn) (fun x y H Q => ∃ i j, x = .str i ∧ y = .str j ∧ Q (.bl (!(!(Builtin.Str.occurrences j i 0 j.length 1).isEmpty))) H) := by
 intro pins s σ H x y v u Q I rx ry h
 obtain ⟨i, j, rfl, rfl, q⟩ := h
 obtain ⟨t, rfl⟩ := rx
 obtain ⟨t', rfl⟩ := ry
 exact notIn_str (fin_bl I q rfl)
theorem OpR.or {f : Value → Value → Sem Value} {r r' : R2} (h : OpR X f r) (h' : OpR X f r') : OpR X f (fun x y H Q => r x y H Q ∨ r' x y H Q) := by
 intro pins s σ H x y v u Q I rx ry q
 rcases q with q | q
 ·exact h pins s σ H x y v u Q I rx ry q
 ·exact h' pins s σ H x y v u Q I rx ry q
theorem nomark (b : Expr) {op : CmpOp} (h : op ≠ .In := by decide) (h2 : op ≠ .NotIn := by decide) : behindInMarks op b = false := by
 have e1 : (op == CmpOp.In) = false := by cases op <;> first | rfl | exact absurd rfl h
 have e2 : (op == CmpOp.NotIn) = false := by cases op <;> first | rfl | exact absurd rfl h2
 cases b <;> simp [behindInMarks, e1, e2]
theorem pe_cmpR {op : CmpOp} {r : R2} (ho : OpR X (compareOp op) r) (ha : PE X a ta) (hb : PE X b tb) (hm : behindInMarks op b = false) : PE X (.Compare a [op] [b] pos) (tOp r ta tb) := by
 intro pins s σ H Q I h
 exact wpAny_Compare1 (binT ha hb I h fun v u s2 x y H2 I2 rx ry q => ho pins s2 σ H2 x y v u Q I2 rx ry q) hm
def tTest (t : TE) : TT := fun σ H Q => t σ H fun x H' => ∃ k, x = .bl k ∧ Q k H'
theorem pt_cmpR {op : CmpOp} {r : R2} (ho : OpR X (compareOp op) r) (ha : PE X a ta) (hb : PE X b tb) (hm : behindInMarks op b = false) : PT X (.Compare a [op] [b] pos) (tTest (tOp r ta tb)) := by
 intro pins s σ H Q I h
 refine wpAny_isTrue_Compare1 (thn (ha pins s σ H _ I h) fun v s1 ⟨x, H1, I1, r1, q1⟩ => thn (hb pins s1 σ H1 _ I1 q1) fun u s2 ⟨y, H2, I2, r2, q2⟩ =>
  thn (ho pins s2 σ H2 x y v u _ I2 r1 r2 q2) fun c s3 ⟨z, H3, I3, r3, k, e, q3⟩ => ?_) hm
 subst e
 cases r3
 exact wpAny_truthy_bool (fun ht => ⟨H3, I3, q3⟩)
def tChain (r r' : R2) (ta tb tc : TE) : TE := fun σ H Q => ta σ H fun x H1 => tb σ H1 fun y H2 => r x y H2 fun z H3 => ∃ k, z = .bl k ∧
 (if k = true then tc σ H3 fun w' H4 => r' y w' H4 Q else Q (.bl false) H3)
theorem pt_chain {op op' : CmpOp} {r r' : R2} (ho : OpR X (compareOp op) r) (ho' : OpR X (compareOp op') r') (ha : PE X a ta) (hb : PE X b tb) (hc : PE X c tc)
  (hm : lastMarks [op, op'] [b, c] = false := by with_unfolding_all rfl) : PT X (.Compare a [op, op'] [b, c] pos) (tTest (tChain r r' ta tb tc)) := by
 intro pins s σ H Q I h
 refine isTrue_chain (thn (ha pins s σ H _ I h) fun v s1 ⟨x, H1, I1, r1, q1⟩ => test_link (thn (hb pins s1 σ H1 _ I1 q1) fun u s2 ⟨y, H2, I2, r2, q2⟩ =>
  thn (ho pins s2 σ H2 x y v u _ I2 r1 r2 q2) fun d s3 ⟨z, H3, I3, r3, k, e, q3⟩ => ?_)) hm
 subst e
 cases r3
 refine wpAny_truthy_bool ?_
 cases k with
 | false =>
  obtain ⟨k', e', q'⟩ := q3
  cases e'
  exact ite_ff (fun ht => ⟨H3, I3, q'⟩)
 | true =>
  refine ite_tt (test_last (thn (hc pins s3 σ H3 _ I3 q3) fun w' s4 ⟨z', H4, I4, r4, q4⟩ => thn (ho' pins s4 σ H4 y z' u w' _ I4 r2 r4 q4) fun d' s5 ⟨z2, H5, I5, r5, k2, e2, q5⟩ => ?_))
  subst e2
  cases r5
  exact wpAny_truthy_bool (fun ht => ⟨H5, I5, q5⟩)
theorem line63 : (sizeLine : Nat) < 2 ^ 63 := by rw [sizeLine_eq]; decide
theorem op_add_str : OpR X (binaryOp .Add) (fun x y H Q => ∃ i j, x = .str i ∧ y = .str j ∧ i.length + j.length ≤ sizeLine ∧ Q (.str (i ++ j)) H) := by
 intro pins s σ H x y v u Q I rx ry h
 obtain ⟨i, j, rfl, rfl, hz, q⟩ := h
 obtain ⟨t, rfl⟩ := rx
 obtain ⟨t', rfl⟩ := ry
 exact add_str (fun t' tk => (fun ht => ⟨.str (i ++ j), H, I.tok _, ⟨_, rfl⟩, q⟩)) hz
theorem vals1 {x : V} {us : List Value} (r : Vals [x] us) : ∃ u, us = [u] ∧ RelV x u := by
 cases r with
 | cons r1 r2 => cases r2; exact ⟨_, rfl, r1⟩
theorem call_int1 : CallR X (.type "int") (fun xs H Q => (∃ i, xs = [.int i] ∧ Q (.int i) H) ∨ ∃ k, xs = [.bl k] ∧ Q (.int (if k then 1 else 0)) H) := by
 intro pins s σ H xs us Q I r h
 rcases h with ⟨i, rfl, q⟩ | ⟨k, rfl, q⟩
 ·obtain ⟨u, rfl, t, rfl⟩ := vals1 r
  exact call_int_int (fun ht => ⟨.int i, H, I, ⟨_, rfl⟩, q⟩)
 ·obtain ⟨u, rfl, r1⟩ := vals1 r
  cases r1
  exact call_int_bool (fun ht => ⟨.int (if k then 1 else 0), H, I.tok _, ⟨_, rfl⟩, q⟩)
theorem call_str_int : CallR X (.type "str") (fun xs H Q => ∃ i, xs = [.int i] ∧ i.natAbs.log2 < 1920 ∧ Q (.str (toString i)) H) := by
 intro pins s σ H xs us Q I r h
 obtain ⟨i, rfl, hz, q⟩ := h
 obtain ⟨u, rfl, t, rfl⟩ := vals1 r
 exact PySem.P.str_of_int hz (fun ht => ⟨.str _, H, I.tok _, ⟨_, rfl⟩, q⟩)
end
structure ObjM (h : Heap) (x dx C : Addr) (mA : Str → Option Value) : Prop where
 obj : h.get? x = some (PySem.W.instObj C dx)
 ns : h.Ns1 dx mA
 ne : dx ≠ x
structure Cls (K : PySem.W.Frag) (C : Addr) : Prop where
 pg : PySem.W.plainGet K C Str.empty = true
 hd : PySem.W.hasDictIn K C = true
 po : PySem.W.plainOver K C = true
 sa : PySem.W.findIn K (.ref C) "__setattr__" = some (some (.builtin "object.__setattr__"))
theorem Cls.get {K : PySem.W.Frag} {C : Addr} (c : Cls K C) (f : Str) : PySem.W.plainGet K C f = true := c.pg
structure Con (K : PySem.W.Frag) (C : Addr) (f : Str) (v : V) (u : Value) : Prop where
 at_ : PySem.W.findIn K (.ref C) f = some (some u)
 rel : RelV v u
 get : PySem.W.specialIn K u "__get__" = some none
 cp : PySem.W.copiedNames.contains f = false
structure Meth (K : PySem.W.Frag) (C : Addr) (m : Str) (f : Addr) : Prop where
 at_ : PySem.W.findIn K (.ref C) m = some (some (.ref f))
 fn : PySem.W.isFn K (.ref f) = true
 kp : PySem.W.keepIn K (.ref f) = true
section
variable {X : Cx} {pins : List (Addr × Obj)} {σ : St} {H : Hp} {s : Shared} {a C dx : Addr} {fs : List (Str × V)} {f : Str} {v : V} {A : Around} {E : Value → Shared → Prop}
theorem Inv.made (I : Inv X pins σ H s) : Inv X pins σ (upd (upd H s.heap.objs.size (.own (s.heap.objs.size + 1))) (s.heap.objs.size + 1) (.ins C s.heap.objs.size []))
  { s with heap := (s.heap.push PySem.W.emptyDict).push (PySem.W.instObj C s.heap.objs.size) } := by
 have e1 : (s.heap.push PySem.W.emptyDict).get? s.heap.objs.size = some PySem.W.emptyDict := Heap.get?_push_size s.heap rfl
 have e2 : ((s.heap.push PySem.W.emptyDict).push (PySem.W.instObj C s.heap.objs.size)).get? (s.heap.objs.size + 1) = some (PySem.W.instObj C s.heap.objs.size) := by
  have := Heap.get?_push_size (s.heap.push PySem.W.emptyDict) (o := PySem.W.instObj C s.heap.objs.size) rfl
  rwa [Heap.size_push] at this
 have e3 : (s.heap.push PySem.W.emptyDict).Ns s.heap.objs.size (fun _ => none) := ⟨PySem.W.emptyDict, #[], _, e1, rfl, (fun e he => absurd he (by simp)), fun _ => rfl⟩
 have I1 := I.laid (a := s.heap.objs.size) (o := .own (s.heap.objs.size + 1)) (h' := s.heap.push PySem.W.emptyDict) (t' := s.toks) (fun b u q => Heap.get?_push_of_some _ q) (Nat.le_refl _) ⟨_, e1⟩
 refine I1.laid (a := s.heap.objs.size + 1) (o := .ins C s.heap.objs.size []) (t' := s.toks) (fun b u q => Heap.get?_push_of_some _ q) (Nat.le_of_eq (Heap.size_push _ _)) ?_
 have ne : s.heap.objs.size ≠ s.heap.objs.size + 1 := Nat.ne_of_lt (Nat.lt_succ_self _)
 refine ⟨by rw [upd_ne ne, upd_same], Nat.zero_le _, ne, e2, fun _ => none, (Heap.Ns1.of_empty e3).at fun o q => Heap.get?_push_of_some _ q, fun _ => True.intro, fun y hy => absurd rfl hy⟩
end
section
variable {X : Cx} {pins : List (Addr × Obj)} {σ : St} {H : Hp} {s : Shared} {A : Around} {E : Value → Shared → Prop} {Q : Value → Shared → Prop} {c : Value} {b : Bool}
inductive TyOf (K : PySem.W.Frag) (H : Hp) : V → Value → Prop where
 | non : TyOf K H .non (.type "NoneType")
 | bl (x : Bool) : TyOf K H (.bl x) (.type "bool")
 | int (i : Int) : TyOf K H (.int i) (.type "int")
 | str (x : Str) : TyOf K H (.str x) (.type "str")
 | flt (x : UInt64) : TyOf K H (.flt x) (.type "float")
 | lst {a : Addr} {xs : List V} (e : H a = some (.lst xs)) : TyOf K H (.ref a) (.type "list")
 | frz {a : Addr} {o : Obj} {xs : List V} (e : H a = some (.frz o (.lst xs))) : TyOf K H (.ref a) (.type "list")
 | tup {a : Addr} {xs : List V} (e : H a = some (.tup xs)) : TyOf K H (.ref a) (.type "tuple")
 | dK {a : Addr} {kvs : List (Key × V)} (e : H a = some (.dK kvs)) : TyOf K H (.ref a) (.type "dict")
 | dT {a : Addr} {kvs : List (List Key × V)} (e : H a = some (.dT kvs)) : TyOf K H (.ref a) (.type "dict")
 | ins {a C dx : Addr} {fs : List (Str × V)} (e : H a = some (.ins C dx fs)) (cl : Cls K C) (ha : PySem.W.findIn K (.ref C) "__class__" = some (some (.builtin "object.__class__")))
   (hn : PySem.W.specialIn K (.builtin "object.__class__") "__get__" = some (some (.builtin "getset_descriptor.__get__"))) (htk : PySem.W.takesIn K (.builtin "object.__class__") = some true)
   (hm : PySem.W.mroIn K C (.type "object") = some true) : TyOf K H (.ref a) (.ref C)
end
structure Room (k : Nat) (A : Around) : Prop where
 hd : A.handled = none
 dp : A.depth + 3 * k + 5 < recursionLimit
 un : A.units + 16 * k + 200 < cLine
 gd : A.guards = some []
theorem Room.mono {j k : Nat} {A : Around} (r : Room k A) (h : j ≤ k) : Room j A := ⟨r.hd, by have := r.dp; omega, by have := r.un; omega, r.gd⟩
theorem Room.deeper {k : Nat} {A : Around} (r : Room (k + 1) A) (env : Env) : Room k (A.deeper env) :=
 ⟨r.hd, by have := r.dp; show A.depth + 1 + 3 * k + 5 < _; omega, by have := r.un; show A.units + 3 + 16 * k + 200 < _; omega, r.gd⟩
theorem Room.in1 {k : Nat} {A : Around} (r : Room (k + 1) A) : Room k A.in1 :=
 ⟨r.hd, by have := r.dp; show A.depth + 3 * k + 5 < _; omega, by have := r.un; show A.units + 1 + 16 * k + 200 < _; omega, r.gd⟩
theorem Room.depth {k : Nat} {A : Around} (r : Room k A) : A.depth < recursionLimit := by have := r.dp; omega
theorem Room.units {k : Nat} {A : Around} (r : Room k A) : A.units + 64 < cLine := by have := r.un; omega
def tNil : TA := fun _ H Q => Q [] H
def tCons (ta : TE) (tr : TA) : TA := fun σ H Q => ta σ H fun x H1 => tr σ H1 fun xs H2 => Q (x :: xs) H2
section
variable {X : Cx} {e : Expr} {es : List Expr} {te : TE} {t : TA} {pos : Pos}
theorem pa_nil : PA X [] tNil := fun _ _ _ _ H Q I h => Calls.spliced_nil (fun ht => ⟨[], H, I, .nil, h⟩)
theorem pa_cons (ha : PE X e te) (hr : PA X es t) (hs : starEach (e :: es) X.env = (false, eval e X.env) :: starEach es X.env := by rfl) : PA X (e :: es) (tCons te t) := by
 intro pos pins s σ H Q I h
 rw [hs]
 show wpAny _ _ (spliced ((false, eval e X.env) :: backTo pos (starEach es X.env))) _ _ s
 refine Calls.spliced_cons (thn (ha pins s σ H _ I h) fun u s1 ⟨x, H1, I1, r1, q1⟩ => ?_)
 exact thn (hr pos pins s1 σ H1 _ I1 q1) fun us s2 ⟨xs, H2, I2, r2, q2⟩ => (fun ht => ⟨x :: xs, H2, I2, .cons r1 r2, q2⟩)
def tTup (t : TA) : TE := fun σ H Q => t σ H fun xs H1 => xs.length ≤ sizeLine ∧ ∀ p, H1 p = none → Q (.ref p) (upd H1 p (.tup xs))
def tLst (t : TA) : TE := fun σ H Q => t σ H fun xs H1 => xs.length ≤ sizeLine ∧ ∀ p, H1 p = none → Q (.ref p) (upd H1 p (.lst xs))
theorem pe_tup {x1} (h : PA X es t) : PE X (.Tuple es x1 pos) (tTup t) := by
 intro pins s σ H Q I hq
 refine wpAny_Tuple_spliced (thn (h pos pins s σ H _ I hq) fun us s1 ⟨xs, H1, I1, r, z, q⟩ => ⟨by rw [← r.length]; exact z, ?_⟩)
 have hf : H1 s1.heap.objs.size = none := I1.hok.fresh (Nat.le_refl _)
 refine (fun ht => ⟨.ref s1.heap.objs.size, upd H1 s1.heap.objs.size (.tup xs), I1.laid (t' := s1.toks) (fun b u e => Heap.get?_push_of_some _ e) (Nat.le_refl _) ?_, rfl, q _ hf⟩)
 exact ⟨z, us, r, ⟨_, Heap.get?_push_size _ rfl, rfl, _, rfl⟩⟩
theorem pe_lst (h : PA X es t) : PE X (.List es pos) (tLst t) := by
 intro pins s σ H Q I hq
 refine wpAny_List_spliced (thn (h pos pins s σ H _ I hq) fun us s1 ⟨xs, H1, I1, r, z, q⟩ => ⟨by rw [← r.length]; exact z, ?_⟩)
 have hf : H1 s1.heap.objs.size = none := I1.hok.fresh (Nat.le_refl _)
 refine (fun ht => ⟨.ref s1.heap.objs.size, upd H1 s1.heap.objs.size (.lst xs), I1.laid (t' := s1.toks) (fun b u e => Heap.get?_push_of_some _ e) (Nat.le_refl _) ?_, rfl, q _ hf⟩)
 exact ⟨z, us, 0, r, Heap.get?_push_size _ rfl⟩
end
abbrev Sp := List V → Hp → VK → XK → Prop
abbrev CXT := List Env → Hp → Shared → XK → Value → Shared → Prop
structure Env0 (P : Program) (w : World) (K : PySem.W.Frag) (mg : Str → Option Value) (base : Heap) (A : Around) (outer : List Env) (s : Shared) (H : Hp) : Prop where
 frames : A.frames = some outer
 mod : Mod K mg base
 bs : ∀ b o, base.get? b = some o → s.heap.get? b = some o ∧ H b = none
 bsz : base.objs.size ≤ s.heap.objs.size
 funs : s.heap.FunFrames base outer
 frf : ∀ b ∈ frs outer, H b = none
 hok : HOk P w H s.heap
 bare : AllBare s.gens
def CE (outer : List Env) (P : Program) (w : World) (H : Hp) (s : Shared) (Q : VK) (u : Value) (s' : Shared) : Prop :=
 ∃ v H', s'.os = s.os ∧ AllBare s'.gens ∧ Un (frs outer) [] H H' s.heap s'.heap ∧ HOk P w H' s'.heap ∧ RelV v u ∧ Q v H'
def CR (CX : CXT) (outer : List Env) (P : Program) (w : World) (H : Hp) (s : Shared) (Q : VK) (E : XK) (r : Result) (s' : Shared) : Prop :=
 match r with
 | .ok (.ret u) => CE outer P w H s Q u s'
 | .ok _ => False
 | .error e => CX outer H s E e s'
abbrev lawS : Str := "_law_script"
structure FnOk (P : Program) (w : World) (K : PySem.W.Frag) (mg : Str → Option Value) (base : Heap) (CX : CXT) (k : Nat) (f : Addr) (fd : FuncData) (ps : List Str) (sp : Sp) : Prop where
 len : ∀ vs H Q E, sp vs H Q E → vs.length = ps.length
 run : ∀ (A : Around) (outer : List Env) (s : Shared) (H : Hp) (args : Args) (us : List Value) (vs : List V) (Q : VK) (E : XK), Room k A → Env0 P w K mg base A outer s H → (0 < s.toks ∨ ps = [lawS]) → BindsTo s fd args (ps.zip us) → Vals vs us → sp vs H Q E →
  codeAny (model P w) A (.call (.ref f) args) (CR CX outer P w H s Q E) s
theorem FnOk.mono {P : Program} {w : World} {K : PySem.W.Frag} {mg : Str → Option Value} {base : Heap} {CX : CXT} {j k : Nat} {f : Addr} {fd : FuncData} {ps : List Str} {sp : Sp} (F : FnOk P w K mg base CX j f fd ps sp) (h : j ≤ k) :
  FnOk P w K mg base CX k f fd ps sp := ⟨F.len, fun A outer s H args us vs Q E hr => F.run A outer s H args us vs Q E (hr.mono h)⟩
theorem FnOk.imp {P : Program} {w : World} {K : PySem.W.Frag} {mg : Str → Option Value} {base : Heap} {CX : CXT} {k : Nat} {f : Addr} {fd : FuncData} {ps : List Str} {sp sp' : Sp} (F : FnOk P w K mg base CX k f fd ps sp)
  (h : ∀ vs H Q E, sp' vs H Q E → sp vs H Q E) : FnOk P w K mg base CX k f fd ps sp' :=
 ⟨fun vs H Q E q => F.len vs H Q E (h _ _ _ _ q), fun A outer s H args us vs Q E hr he ht hb hv hs => F.run A outer s H args us vs Q E hr he ht hb hv (h _ _ _ _ hs)⟩
theorem Env0.in1 {P : Program} {w : World} {K : PySem.W.Frag} {mg : Str → Option Value} {base : Heap} {A : Around} {outer : List Env} {s : Shared} {H : Hp} (e : Env0 P w K mg base A outer s H) :
  Env0 P w K mg base A.in1 outer s H := ⟨e.frames, e.mod, e.bs, e.bsz, e.funs, e.frf, e.hok, e.bare⟩
section
variable {X : Cx} {pins : List (Addr × Obj)} {σ : St} {H : Hp} {s s' : Shared}
theorem Inv.env0 (I : Inv X pins σ H s) : Env0 X.prog X.w X.K X.mg X.base X.A X.stack s H :=
 ⟨I.ok.frames, I.ok.mod, I.bs, Nat.le_trans I.ok.bsz I.sz, I.stack, I.stkFree, I.hok, I.bare⟩
theorem Inv.after {Q : VK} {u : Value} (I : Inv X pins σ H s) (h : CE X.stack X.prog X.w H s Q u s') : EP X pins σ Q u s' := by
 obtain ⟨v, H', os, bare, un, hok, r, q⟩ := h
 obtain ⟨hh, g, d, t, os'⟩ := s'
 obtain rfl : os' = s.os := os
 exact (fun ht => ⟨v, H', I.call (h' := hh) (g' := g) (d' := d) (t' := t) (ch := []) un hok bare (fun b z => absurd z (by simp)), r, q⟩)
end
def tCall (sp : Sp) (dvs : List V) (E : XK) (t : TA) : TE := fun σ H Q => t σ H fun vs H1 => sp (vs ++ dvs) H1 Q E
def Binds (K : PySem.W.Frag) (fd : FuncData) (ps : List Str) (ds : List Value) : Prop :=
 ∀ (s : Shared) (us : List Value), K.In s.heap → (us ++ ds).length = ps.length → BindsTo s fd ⟨us, []⟩ (ps.zip (us ++ ds))
theorem Binds.all {K : PySem.W.Frag} {fd : FuncData} {ps : List Str} (h : ∀ us : List Value, us.length = ps.length → bindArgs fd ⟨us, []⟩ = pure (ps.zip us)) : Binds K fd ps [] := fun s us _ hl => by
 rw [List.append_nil] at hl ⊢
 exact .of_eq (h us hl)
def Passes (CX : CXT) (X : Cx) (E : XK) : Prop := ∀ (pins : List (Addr × Obj)) (σ : St) (H : Hp) (s : Shared) (e : Value) (s' : Shared), Inv X pins σ H s → CX X.stack H s E e s' → X.xe e s'
section
variable {X : Cx} {CX : CXT} {k : Nat} {f C : Addr} {fd : FuncData} {ps : List Str} {sp : Sp} {dvs : List V} {ds : List Value} {E : XK} {x m : Str} {p pos apos : Pos} {e o : Expr} {es : List Expr} {ta : TE} {t : TA}
theorem run_fn {pins : List (Addr × Obj)} {σ : St} {H : Hp} {s : Shared} {Q : VK} {us : List Value} {vs : List V} (F : FnOk X.prog X.w X.K X.mg X.base CX k f fd ps sp) (hr : Room k X.A) (hb : Binds X.K fd ps ds) (hd : Vals dvs ds) (hx : Passes CX X E)
  (I : Inv X pins σ H s) (r : Vals vs us) (h : sp (vs ++ dvs) H Q E) : wpAny (model X.prog X.w) X.A (call (.ref f) us) (EP X pins σ Q) X.xe s := by
 have r2 : Vals (vs ++ dvs) (us ++ ds) := r.append hd
 have hl : (us ++ ds).length = ps.length := by rw [← r2.length]; exact F.len _ _ _ _ h
 refine wpAny_call (codeAny_mono (F.run X.A X.stack s H ⟨us, []⟩ (us ++ ds) (vs ++ dvs) Q E hr I.env0 (.inl I.tk) (hb s us I.kIn hl) r2 h) fun r s' hq => ?_)
 cases r with
 | error e => exact hx pins σ H s e s' I hq
 | ok fl =>
  cases fl with
  | ret u => exact I.after hq
  | next => exact False.elim hq
  | brk => exact False.elim hq
  | cont => exact False.elim hq
theorem pe_call (F : FnOk X.prog X.w X.K X.mg X.base CX k f fd ps sp) (hr : Room k X.A) (hg : Gl X x) (hm : X.mg x = some (.ref f)) (hk : PySem.W.keepIn X.K (.ref f) = true) (hb : Binds X.K fd ps ds) (hd : Vals dvs ds) (hx : Passes CX X E)
  (ha : PA X (e :: es) t) (hdb : (x == ("__debug__" : Str)) = false := by decide) (he : starEach (e :: es) X.env = (false, eval e X.env) :: starEach es X.env := by rfl) (hpl : (backTo pos (starEach es X.env)).any (·.1) = false := by rfl) :
  PE X (.Call (.Name x p) (e :: es) [] pos) (tCall sp dvs E t) := by
 intro pins s σ H Q I h
 refine wpAny_Call_Name_kw (ld_glob I hg hm ?_ hdb)
 refine PySem.W.callWith_K (h₀ := X.base) I.ok.mod.kin hk (thn (ha pos pins s σ H _ I h) fun us s1 ⟨vs, H1, I1, r, q⟩ => ⟨I1.kIn, ?_⟩) he hpl
 exact run_fn F hr hb hd hx I1 r q
structure Mk (K : PySem.W.Frag) (C f : Addr) : Prop where
 makes : PySem.W.makesIn K C = true
 init : PySem.W.findIn K (.ref C) "__init__" = some (some (.ref f))
 fn : PySem.W.isFn K (.ref f) = true
 kp : PySem.W.keepIn K (.ref C) = true
end
section
variable {X : Cx} {CX : CXT} {k : Nat} {f C : Addr} {fd : FuncData} {ps ks : List Str} {sp : Sp} {E : XK} {x m : Str} {p pos apos kpos : Pos} {e o : Expr} {es : List Expr} {kws : List Keyword} {te ta : TE} {t tk : TA} {nm : Option Str}
structure KBinds (K : PySem.W.Frag) (fd : FuncData) (ps ks : List Str) (g : List Value → List Value → List Value) (gV : List V → List V → List V) : Prop where
 to : ∀ (s : Shared) (us ws : List Value), K.In s.heap → (g us ws).length = ps.length → BindsTo s fd ⟨us, ks.zip ws⟩ (ps.zip (g us ws))
 rel : ∀ {vs : List V} {us : List Value} {zs : List V} {ws : List Value}, Vals vs us → Vals zs ws → Vals (gV vs zs) (g us ws)
variable {g : List Value → List Value → List Value} {gV : List V → List V → List V}
end
structure FnScope (N P : List Str) (sc : Scope) : Prop where
 kind : sc.kind = .function
 co : sc.isCoroutine = false
 gen : sc.isGenerator = false
 nd : N.Nodup
 pre : N.take P.length = P
 par : ∀ x ∈ P, sc.names.lookup x = some .local ∨ sc.names.lookup x = some .cell
 fst : P = [lawS] → sc.names.lookup lawS = some .local ∨ sc.names.lookup lawS = some .cell
 nofree : ∀ y ∈ sc.names, y.2 ≠ .free
theorem bindL_out {kindOf : Str → Option NameKind} {x : Str} : ∀ {binds : List (Str × Value)} {m : Str → Option Value}, (∀ v, (x, v) ∉ binds) → bindL kindOf binds m x = m x
 | [], _, _ => rfl
 | (n, v) :: r, m, h => by
  unfold bindL
  rw [bindL_out fun w hw => h w (List.mem_cons_of_mem _ hw)]
  split
  ·have : x ≠ n := by rintro rfl; exact h v List.mem_cons_self
   simp [this]
  ·rfl
theorem bindC_out {kindOf : Str → Option NameKind} {x : Str} : ∀ {binds : List (Str × Value)} {m : Str → Option Value}, (∀ v, (x, v) ∉ binds) → bindC kindOf binds m x = m x
 | [], _, _ => rfl
 | (n, v) :: r, m, h => by
  unfold bindC
  rw [bindC_out fun w hw => h w (List.mem_cons_of_mem _ hw)]
  split
  ·rfl
  ·have : x ≠ n := by rintro rfl; exact h v List.mem_cons_self
   simp [this]
theorem bindL_get {kindOf : Str → Option NameKind} {x : Str} {v : Value} : ∀ {P : List Str} {vs : List Value} {i : Nat} {m : Str → Option Value}, P.Nodup → P[i]? = some x → vs[i]? = some v → kindOf x = some .local →
  bindL kindOf (P.zip vs) m x = some v
 | [], _, _, _, _, h, _, _ => by simp at h
 | _ :: _, [], _, _, _, _, h, _ => by simp at h
 | p :: P, w :: vs, 0, m, nd, h1, h2, hk => by
  simp at h1 h2; subst h1; subst h2
  show bindL kindOf ((p, w) :: P.zip vs) m p = _
  unfold bindL
  rw [bindL_out fun v hv => (List.nodup_cons.mp nd).1 (List.of_mem_zip hv).1, if_pos hk]
  simp
 | p :: P, w :: vs, i + 1, m, nd, h1, h2, hk => by
  show bindL kindOf ((p, w) :: P.zip vs) m x = _
  unfold bindL
  exact bindL_get (i := i) (List.nodup_cons.mp nd).2 (by simpa using h1) (by simpa using h2) hk
theorem bindC_get {kindOf : Str → Option NameKind} {x : Str} {v : Value} : ∀ {P : List Str} {vs : List Value} {i : Nat} {m : Str → Option Value}, P.Nodup → P[i]? = some x → vs[i]? = some v → kindOf x ≠ some .local →
  bindC kindOf (P.zip vs) m x = some v
 | [], _, _, _, _, h, _, _ => by simp at h
 | _ :: _, [], _, _, _, _, h, _ => by simp at h
 | p :: P, w :: vs, 0, m, nd, h1, h2, hk => by
  simp at h1 h2; subst h1; subst h2
  show bindC kindOf ((p, w) :: P.zip vs) m p = _
  unfold bindC
  rw [bindC_out fun v hv => (List.nodup_cons.mp nd).1 (List.of_mem_zip hv).1, if_neg hk]
  simp
 | p :: P, w :: vs, i + 1, m, nd, h1, h2, hk => by
  show bindC kindOf ((p, w) :: P.zip vs) m x = _
  unfold bindC
  exact bindC_get (i := i) (List.nodup_cons.mp nd).2 (by simpa using h1) (by simpa using h2) hk
def start (N : List Str) (vs : List V) : St := vs.map some ++ List.replicate (N.length - vs.length) none
def cxOf (CX : CXT) (P : Program) (w : World) (K : PySem.W.Frag) (mg : Str → Option Value) (base : Heap) (N : List Str) (qual : Str) (scope : Scope) (f : Addr) (cd : Value) (A : Around) (outer : List Env) (s : Shared) (H : Hp) (E : XK) : Cx where
 prog := P
 w := w
 K := K
 mg := mg
 base := base
 A := A.deeper (envOfC qual scope s.heap.objs.size f cd)
 N := N
 s₀ := s
 H₀ := H
 env := envOfC qual scope s.heap.objs.size f cd
 outer := outer
 stack := envOfC qual scope s.heap.objs.size f cd :: outer
 ex := []
 calm := true
 fn := fun _ => true
 pn := []
 xe := fun e s' => wpAny (model P w) (A.deeper (envOfC qual scope s.heap.objs.size f cd)) (leaving (envOfC qual scope s.heap.objs.size f cd) e) (fun _ s'' => CX outer H s E e s'') (fun e' s'' => CX outer H s E e' s'') s'
theorem cell_has {sc : Scope} {n : Nat} {x : Str} (h : sc.names.lookup x = some .cell) : ∃ c, (cellsFrom n sc.names []).lookup x = some c := by
 have q := PySem.W.cellsFrom_some sc.names n [] (.inl h)
 exact Option.isSome_iff_exists.mp q
theorem inv_start {CX : CXT} {P : Program} {w : World} {K : PySem.W.Frag} {mg : Str → Option Value} {base : Heap} {N ps : List Str} {qual : Str} {scope : Scope} {f : Addr} {cd : Value} {A : Around} {outer : List Env} {s s1 : Shared} {H : Hp} {E : XK} {us : List Value} {vs : List V}
  (S : FnScope N ps scope) (hd : A.handled = none) (e0 : Env0 P w K mg base A outer s H) (hl : vs.length = ps.length) (r : Vals vs us)
  (x : InCallC s s.heap.objs.size (bindL (envOfC qual scope s.heap.objs.size f cd).kindOf (ps.zip us) fun _ => none) (cellsFrom (s.heap.objs.size + 1) scope.names []) (bindC (envOfC qual scope s.heap.objs.size f cd).kindOf (ps.zip us) fun _ => none) s1) (ht1 : 0 < s1.toks) :
  Inv (cxOf CX P w K mg base N qual scope f cd A outer s H E) [] (start N vs) H s1 := by
 have hpl : ps.length ≤ N.length := by have := congrArg List.length S.pre; rw [List.length_take] at this; omega
 obtain ⟨h1, tk, rfl, hk⟩ := x.done
 have noA : ∀ b : Addr, b ∉ (cxOf CX P w K mg base N qual scope f cd A outer s H E).ex := fun b z => absurd (show b ∈ ([] : List Addr) from z) (by simp)
 refine ⟨⟨e0.mod, S.kind, rfl, rfl, Nat.le_refl _, fun y z c h1 h2 => ?_, fun y hy => ?_, fun y c _ h => ?_, fun _ => hd, Around.frames_deeper e0.frames, .inr ⟨rfl, rfl⟩, fun b z => absurd z (noA b), e0.bs, e0.bsz, fun b _ _ => noA b, fun b z => absurd z (noA b), e0.funs, e0.frf⟩,
  rfl, e0.bare, Un.kept hk, ⟨_, x.toInCall.ns, fun i y v h1 h2 h3 => ?_⟩, fun y c h => ⟨_, x.cell y c h⟩, e0.hok.fresh (Nat.le_refl _), fun y c h => ?_, fun p hp => absurd (show p ∈ ([] : List (Addr × Obj)) from hp) (by simp), e0.hok.kept hk, ?_, ht1⟩
 ·exact name_of_addr x.apart (PySem.mem_of_lookup h1) (PySem.mem_of_lookup h2)
 ·have hy : scope.names.lookup y = some .cell ∨ scope.names.lookup y = some .free := hy
  rcases hy with hy | hy
  ·exact cell_has hy
  ·exact absurd rfl (S.nofree _ (PySem.mem_of_lookup hy))
 ·exact Nat.le_of_lt (x.above y c (PySem.mem_of_lookup h))
 ·have hi : i < vs.length := by
   unfold start at h2
   by_cases hi : i < vs.length
   ·exact hi
   ·rw [List.getElem?_append_right (by simpa using hi)] at h2
    rw [List.getElem?_replicate] at h2
    split at h2 <;> cases h2
  have ha : vs[i]? = some v := by
   unfold start at h2
   rw [List.getElem?_append_left (by simpa using hi), List.getElem?_map] at h2
   cases e : vs[i]? with
   | none => rw [e] at h2; cases h2
   | some a => rw [e] at h2; cases h2; rfl
  obtain ⟨u, hu, rv⟩ := r.get ha
  have hp : ps[i]? = some y := by
   rw [← S.pre, List.getElem?_take_of_lt (by omega)]; exact h1
  have ndP : ps.Nodup := by rw [← S.pre]; exact S.nd.sublist (List.take_sublist _ _)
  refine ⟨u, rv, ?_⟩
  rcases S.par y (List.mem_of_getElem? hp) with k | k
  ·exact .inl ⟨k, bindL_get ndP hp hu k⟩
  ·obtain ⟨c, e⟩ := cell_has (n := s.heap.objs.size + 1) k
   refine .inr ⟨.inl k, c, e, ?_⟩
   have q := x.cell y c e
   rw [bindC_get ndP hp hu (by show scope.names.lookup y ≠ _; rw [k]; decide)] at q
   exact q
 ·exact e0.hok.fresh (Nat.le_of_lt (x.above y c (PySem.mem_of_lookup h)))
 ·unfold start
  show _ = N.length
  rw [List.length_append, List.length_map, List.length_replicate]
  omega
theorem stLT {M : Model} {A : Around} {E : Value → Shared → Prop} {s₀ s : Shared} {m cm : Str → Option Value} {env : Env} {n : Str} {v : Value} {Q : Unit → Shared → Prop} (x : InCallC s₀ env.locals m env.cells cm s) (hk : env.scope.kind = .function) (hl : env.kindOf n = some .local)
  (h : ∀ s', InCallC s₀ env.locals (fun y => if y = n then some v else m y) env.cells cm s' → 0 < s'.toks → Q () s') : wpAny M A (storeName env n v) Q E s := by
 refine wpAny_storeName_local hl x.toInCall.ns (fun h' hn' hs' => h _ ⟨⟨?_, hn', fun b o e => ?_, x.toInCall.fresh⟩, fun k c hc => ?_, x.apart, x.above⟩ (Nat.succ_pos _)) (by rw [hk]; rfl)
 ·obtain ⟨h₁, tk, rfl⟩ := x.toInCall.same
  exact ⟨h', _, rfl⟩
 ·exact hs'.extBut b o (Nat.ne_of_lt (Nat.lt_of_lt_of_le (Heap.lt_size e) x.toInCall.fresh)) (x.toInCall.keep b o e)
 ·exact (x.cell k c hc).sameBut hs' (Nat.ne_of_gt (x.above k c (PySem.mem_of_lookup hc)))
theorem newEnvT {prog : Program} {w : World} {A : Around} {E : Value → Shared → Prop} {s : Shared} {scope : Scope} {globals : Addr} {ps : List Str} {us : List Value} {qual : Str} {func : Option Addr} {code : Value} {builtins : Addr} {Q : Env → Shared → Prop}
  (hk : scope.kind = .function) (ht : 0 < s.toks ∨ ps = [lawS]) (hl : us.length = ps.length) (hf : ps = [lawS] → scope.names.lookup lawS = some .local)
  (hkind : ∀ x ∈ ps.zip us, scope.names.lookup x.1 = some .local ∨ (scope.names.lookup x.1 = some .cell ∧ ((cellsFrom (s.heap.objs.size + 1) scope.names []).lookup x.1).isSome = true))
  (hQ : ∀ env, env = newEnv scope s.heap.objs.size globals (cellsFrom (s.heap.objs.size + 1) scope.names []) qual func code none builtins →
   ∀ s', InCallC s env.locals (bindL env.kindOf (ps.zip us) fun _ => none) env.cells (bindC env.kindOf (ps.zip us) fun _ => none) s' → 0 < s'.toks → Q env s') :
  wpAny (model prog w) A (newFunctionEnv scope globals [] (ps.zip us) qual func code none builtins) Q E s := by
 rcases ht with ht | ht
 ·exact wpAny_with_toks (n := 1) ht (wpAny_newFunctionEnv_cells hk hkind fun env he s' x h => hQ env he s' x h)
 ·have hF := hf ht
  clear hf
  subst ht
  obtain ⟨u, rfl⟩ : ∃ u, us = [u] := by
   match us, hl with
   | [u], _ => exact ⟨u, rfl⟩
  have hz : ([lawS] : List Str).zip [u] = [(lawS, u)] := rfl
  rw [hz] at hQ hkind ⊢
  simp only [newFunctionEnv, Option.isSome_none, Bool.false_eq_true, if_false]
  refine wpAny_bind (wpAny_alloc ?_)
  refine wpAny_bind (wpAny_layCells _ (fun name kind cells => by cases hkc : kind == NameKind.cell <;> simp [hkc]) _ _ _ _ ?_)
  have ok := cellsFrom_ok scope.names (s.heap.push { cls := .type "frame", data := .dict #[] }) (s.heap.objs.size + 1) [] ⟨fun _ _ hm => (nomatch hm), List.Pairwise.nil⟩ (by rw [Heap.size_push]; exact Nat.le_refl _)
  rw [Heap.size_push] at ok
  rw [show ({ s with heap := s.heap.push { cls := .type "frame", data := .dict #[] } } : Shared).heap.objs.size = s.heap.objs.size + 1 from Heap.size_push ..]
  have x0 : InCallC s (newEnv scope s.heap.objs.size globals (cellsFrom (s.heap.objs.size + 1) scope.names []) qual func code none builtins).locals (fun _ => none) (newEnv scope s.heap.objs.size globals (cellsFrom (s.heap.objs.size + 1) scope.names []) qual func code none builtins).cells (fun _ => none) { s with heap := pushCells (s.heap.push { cls := .type "frame", data := .dict #[] }) scope.names } :=
   ⟨⟨⟨_, _, rfl⟩, (Heap.Ns.new s.heap (.type "frame")).keeps (pushCells_keeps _ _), fun b o e => pushCells_keeps _ _ b o (Heap.get?_push_of_some _ e), Nat.le_refl _⟩, fun n c hc => (ok.empty n c (PySem.mem_of_lookup hc)).1, ok.apart, fun n c hm => (ok.empty n c hm).2⟩
  rw [List.forIn_cons]
  refine wpAny_bind (wpAny_bind (wpAny_bind (stLT x0 hk hF fun s' x' ht' => wpAny_pure ?_)))
  show wpAny _ _ (forIn [] _ _) _ _ _
  rw [List.forIn_nil]
  refine wpAny_pure (wpAny_pure (hQ _ rfl s' ?_ ht'))
  unfold bindL bindC
  have hF' : (newEnv scope s.heap.objs.size globals (cellsFrom (s.heap.objs.size + 1) scope.names []) qual func code none builtins).kindOf lawS = some .local := hF
  rw [if_pos hF', if_pos hF']
  exact x'
theorem fn_of {CX : CXT} {P : Program} {w : World} {K : PySem.W.Frag} {mg : Str → Option Value} {base : Heap} {k : Nat} {f : Addr} {name qual : Str} {params : Arguments} {body : List Stmt} {scope : Scope} {dV kV doc pm cdv ct oc : Value} {an od : Option Addr}
  {osl : Array (Option Value)} {N ps : List Str} {sp : Sp} (lk : K.lookup f = some ⟨oc, od, .func (PySem.W.fnOf name qual params body scope dV kV doc pm an cdv ct), osl⟩) (hcd : PySem.W.codeIn K cdv qual = true) (S : FnScope N ps scope)
  (hf : ps = [lawS] → scope.names.lookup lawS = some .local)
  (len : ∀ vs H Q E, sp vs H Q E → vs.length = ps.length)
  (hbody : ∀ (A : Around) (outer : List Env) (s : Shared) (H : Hp) (vs : List V) (Q : VK) (E : XK), Room k (A.deeper (envOfC qual scope s.heap.objs.size f cdv)) → sp vs H Q E →
   ∃ t, PSs (cxOf CX P w K mg base N qual scope f cdv A outer s H E) body t ∧ t { nx := fun _ H' => Q .non H', rt := Q } (start N vs) H) :
  FnOk P w K mg base CX (k + 1) f (PySem.W.fnOf name qual params body scope dV kV doc pm an cdv ct) ps sp := by
 refine ⟨len, fun A outer s H args us vs Q E hr e0 ht0 hb r hsp => ?_⟩
 have hl := len _ _ _ _ hsp
 have KX : K.In s.heap := e0.mod.kin.keeps fun b o e => (e0.bs b o e).1
 have lim : s.heap.NoLimit := e0.mod.nolimit.keeps fun b o e => (e0.bs b o e).1
 have hkind : ∀ y ∈ ps.zip us, scope.names.lookup y.1 = some .local ∨ (scope.names.lookup y.1 = some .cell ∧ ((cellsFrom (s.heap.objs.size + 1) scope.names []).lookup y.1).isSome = true) := fun ⟨n, v⟩ hy => by
  rcases S.par n (List.of_mem_zip hy).1 with q | q
  ·exact .inl q
  ·exact .inr ⟨q, PySem.W.cellsFrom_some _ _ _ (.inl q)⟩
 refine codeAny_call_function hr.depth (KX _ _ lk) rfl S.co S.gen rfl (PySem.W.codeRec_of KX hcd) (hb _ _ _ _ ?_)
 refine newEnvT S.kind ht0 (by rw [← r.length]; exact hl) hf hkind fun env he s1 x ht1 => ?_
 subst he
 refine ⟨lim.keeps x.toInCall.keep, codeAny_func ?_⟩
 obtain ⟨t, ht, hq⟩ := hbody A outer s H vs Q E (hr.deeper _) hsp
 have I : Inv (cxOf CX P w K mg base N qual scope f cdv A outer s H E) [] (start N vs) H s1 := inv_start S hr.hd e0 hl r x ht1
 refine thn (ht [] s1 (start N vs) H _ I hq) fun fl s' hs => ?_
 have fin : ∀ {σ' : St} {H' : Hp} {v : V} {u : Value}, Inv (cxOf CX P w K mg base N qual scope f cdv A outer s H E) [] σ' H' s' → RelV v u → Q v H' → CE outer P w H s Q u s' :=
  fun {σ' H' v u} J rv q => ⟨v, H', J.os, J.bare, J.base, J.hok, rv, q⟩
 cases fl with
 | ret u =>
  obtain ⟨v, σ', H', J, rv, q⟩ := hs
  exact fin J rv q
 | next =>
  obtain ⟨σ', H', J, q⟩ := hs
  exact fin (v := V.non) (u := Value.none) J rfl q
 | brk =>
  obtain ⟨_, _, _, q⟩ := hs
  exact False.elim q
 | cont =>
  obtain ⟨_, _, _, q⟩ := hs
  exact False.elim q
section
variable {X : Cx} {x : Str} {p pos : Pos} {e : Expr} {es : List Expr} {t : TA} {id T : String} {r : List V → Hp → VK → Prop}
def tCB (r : List V → Hp → VK → Prop) (t : TA) : TE := fun σ H Q => t σ H fun vs H1 => r vs H1 Q
theorem pe_callB (hc : CallR X (.builtin id) r) (hg : Gl X x) (hm : X.mg x = none) (hv : bootBuiltins x = some (.builtin id)) (ha : PA X (e :: es) t) (hn : x ≠ "__name__" := by decide) (hdb : (x == ("__debug__" : Str)) = false := by decide)
  (he : starEach (e :: es) X.env = (false, eval e X.env) :: starEach es X.env := by rfl) (hpl : (backTo pos (starEach es X.env)).any (·.1) = false := by rfl) : PE X (.Call (.Name x p) (e :: es) [] pos) (tCB r t) := by
 intro pins s σ H Q I h
 refine wpAny_Call_Name_kw (ld_blt I hg hm hv ?_ hn hdb)
 exact PyProof.Rows.callWith_builtin1 (thn (ha pos pins s σ H _ I h) fun us s1 ⟨vs, H1, I1, r1, q1⟩ => hc pins s1 σ H1 vs us Q I1 r1 q1) he hpl
theorem pe_callTy (hc : CallR X (.type T) r) (hg : Gl X x) (hm : X.mg x = none) (hv : bootBuiltins x = some (.type T)) (ha : PA X (e :: es) t) (hn : x ≠ "__name__" := by decide) (hdb : (x == ("__debug__" : Str)) = false := by decide)
  (he : starEach (e :: es) X.env = (false, eval e X.env) :: starEach es X.env := by rfl) (hpl : (backTo pos (starEach es X.env)).any (·.1) = false := by rfl) : PE X (.Call (.Name x p) (e :: es) [] pos) (tCB r t) := by
 intro pins s σ H Q I h
 refine wpAny_Call_Name_kw (ld_blt I hg hm hv ?_ hn hdb)
 exact PyProof.Rows.callWith_type1 (thn (ha pos pins s σ H _ I h) fun us s1 ⟨vs, H1, I1, r1, q1⟩ => hc pins s1 σ H1 vs us Q I1 r1 q1) he hpl
end
end L2
namespace HT
open PySem PyProof.Rows
section
variable {prog : Program} {w : World} {A : Around} {E : Value → Shared → Prop} {s : Shared}
def sIx (n d : Nat) : Option Int → Nat
 | none => d
 | some v => if v < 0 then (v + (n : Int)).toNat else min v.toNat n
theorem sIx_le (n d : Nat) (hd : d ≤ n) (o : Option Int) : sIx n d o ≤ n := by
 cases o with
 | none => exact hd
 | some v =>
  show (if v < 0 then (v + (n : Int)).toNat else min v.toNat n) ≤ n
  by_cases hv : v < 0
  ·rw [if_pos hv]; omega
  ·rw [if_neg hv]; exact Nat.min_le_right _ _
end
end HT
namespace L2
open PySem PySem.Spec PyProof.Rows
abbrev TO := St → Hp → (Option Int → Hp → Prop) → Prop
def PO (X : Cx) (e : Option Expr) (t : TO) : Prop :=
 ∀ (pins : List (Addr × Obj)) (s : Shared) (σ : St) (H : Hp) (Q : Option Int → Hp → Prop), Inv X pins σ H s → t σ H Q →
  wpAny (model X.prog X.w) X.A (evalPart e X.env) (Lz fun u s' => ∃ o H', Inv X pins σ H' s' ∧ IsPart u o ∧ Q o H') X.xe s
def tPart (t : TE) : TO := fun σ H Q => t σ H fun x H1 => ∃ i, x = .int i ∧ Q (some i) H1
section
variable {X : Cx} {e : Expr} {te : TE} {lo hi : Option Expr} {tl th : TO} {pos p2 : Pos}
theorem po_some (h : PE X e te) : PO X (some e) (tPart te) := by
 intro pins s σ H Q I hw
 rw [evalPart_some]
 refine thn (h pins s σ H _ I hw) fun u s1 ⟨x, H1, I1, r1, q1⟩ => ?_
 obtain ⟨i, rfl, q⟩ := q1
 obtain ⟨t, rfl⟩ := r1
 exact (fun ht => ⟨some i, H1, I1, .int i t, q⟩)
def SlR (X : Cx) (r : V → Option Int → Option Int → Hp → VK → Prop) : Prop :=
 ∀ (pins : List (Addr × Obj)) (s : Shared) (σ : St) (H : Hp) (x : V) (v vl vu : Value) (lo hi : Option Int) (sl : Addr) (Q : VK), Inv X pins σ H s → RelV x v → s.heap.IsSliceOf sl vl vu .none → IsPart vl lo → IsPart vu hi → r x lo hi H Q →
  ∃ T id, typeLookup (.type T) "__getitem__" = pure (some (.builtin id)) ∧ s.TypeIs v T ∧ wpAny (model X.prog X.w) X.A (getItem v (.ref sl)) (EP X pins σ Q) X.xe s
theorem SlR.or {r r' : V → Option Int → Option Int → Hp → VK → Prop} (h : SlR X r) (h' : SlR X r') : SlR X (fun x lo hi H Q => r x lo hi H Q ∨ r' x lo hi H Q) := by
 intro pins s σ H x v vl vu lo hi sl Q I rx hs pl pu q
 rcases q with q | q
 ·exact h pins s σ H x v vl vu lo hi sl Q I rx hs pl pu q
 ·exact h' pins s σ H x v vl vu lo hi sl Q I rx hs pl pu q
def tSl (r : V → Option Int → Option Int → Hp → VK → Prop) (te : TE) (tl th : TO) : TE := fun σ H Q => te σ H fun x H1 => tl σ H1 fun l H2 => th σ H2 fun u H3 => r x l u H3 Q
theorem pe_slice {r : V → Option Int → Option Int → Hp → VK → Prop} (hr : SlR X r) (he : PE X e te) (hl : PO X lo tl) (hu : PO X hi th) : PE X (.Subscript e (.Slice lo hi none p2) pos) (tSl r te tl th) := by
 intro pins s σ H Q I h
 refine Subscript_ (thn (he pins s σ H _ I h) fun v s1 ⟨x, H1, I1, r1, q1⟩ => ?_)
 refine wpAny_Slice (thn (hl pins s1 σ H1 _ I1 q1) fun vl s2 ⟨l, H2, I2, pl, q2⟩ => thn (hu pins s2 σ H2 _ I2 q2) fun vu s3 ⟨u, H3, I3, pu, q3⟩ => ?_)
 rw [evalPart_none]
 refine wpAny_pure ?_
 have I4 : Inv X pins σ H3 { s3 with heap := s3.heap.push { cls := .type "slice", data := .fields #[vl, vu, .none] } } := I3.kept (t' := s3.toks) fun b ob q => Heap.get?_push_of_some _ q
 obtain ⟨T, id, hT, ht, hg⟩ := hr pins { s3 with heap := s3.heap.push { cls := .type "slice", data := .fields #[vl, vu, .none] } } σ H3 x v vl vu l u s3.heap.objs.size Q I4 r1 (Heap.IsSliceOf.new ..) pl pu q3
 show wpAny (model X.prog X.w) X.A (subscriptTail e (.Slice lo hi none p2) v (.ref s3.heap.objs.size)) (EP X pins σ Q) X.xe { s3 with heap := s3.heap.push { cls := .type "slice", data := .fields #[vl, vu, .none] } }
 exact tail_any (ops := [.ref s3.heap.objs.size, v]) ht hT hg (by with_unfolding_all rfl)
def cutV (xs : List V) (lo hi : Option Int) : List V := (xs.drop (HT.sIx xs.length 0 lo)).take (HT.sIx xs.length xs.length hi - HT.sIx xs.length 0 lo)
theorem cutV_length (xs : List V) (lo hi : Option Int) : (cutV xs lo hi).length ≤ xs.length := by
 unfold cutV
 rw [List.length_take, List.length_drop]
 omega
end
def ixN (n : Nat) (i : Int) : Option Nat := if 0 ≤ i then (if i < n then some i.toNat else none) else if -(n : Int) ≤ i then some (i + n).toNat else none
def atI {α : Type} (xs : List α) (i : Int) : Option α := (ixN xs.length i).bind fun j => xs[j]?
theorem ixN_seq {n : Nat} {i : Int} {j : Nat} (h : ixN n i = some j) : seqIndex? i n = some j ∧ j < n ∧ -(n : Int) ≤ i ∧ i < n := by
 unfold ixN at h
 by_cases h0 : 0 ≤ i
 ·rw [if_pos h0] at h
  by_cases h1 : i < n
  ·rw [if_pos h1] at h
   have e : i.toNat = j := Option.some.inj h
   exact ⟨by rw [seqIndex_of h0 h1, e], by omega, by omega, h1⟩
  ·rw [if_neg h1] at h; cases h
 ·rw [if_neg h0] at h
  by_cases h1 : -(n : Int) ≤ i
  ·rw [if_pos h1] at h
   have e : (i + n).toNat = j := Option.some.inj h
   exact ⟨by rw [seqIndex_neg (by omega) h1, e], by omega, h1, by omega⟩
  ·rw [if_neg h1] at h; cases h
theorem atI_get {α : Type} {xs : List α} {i : Int} {v : α} (h : atI xs i = some v) : ∃ j, seqIndex? i xs.length = some j ∧ xs[j]? = some v ∧ j < xs.length ∧ -(xs.length : Int) ≤ i ∧ i < xs.length := by
 unfold atI at h
 cases e : ixN xs.length i with
 | none => rw [e] at h; cases h
 | some j =>
  rw [e] at h
  obtain ⟨h1, h2, h3, h4⟩ := ixN_seq e
  exact ⟨j, h1, h, h2, h3, h4⟩
theorem atI_nat {α : Type} {xs : List α} {j : Nat} {v : α} (h : xs[j]? = some v) : atI xs (j : Int) = some v := by
 have hj : j < xs.length := (List.getElem?_eq_some_iff.mp h).1
 have e : ixN xs.length (j : Int) = some j := by
  unfold ixN
  rw [if_pos (by omega), if_pos (by omega)]; simp
 unfold atI; rw [e]; exact h
def PlainIx (b : Expr) : Prop := ∀ o i, subscripted b false o i = operate [o, i] (getItem o i)
def IxR (X : Cx) (r : R2) : Prop :=
 ∀ (value slice : Expr) (pins : List (Addr × Obj)) (s : Shared) (σ : St) (H : Hp) (x y : V) (v u : Value) (Q : VK), Inv X pins σ H s → RelV x v → RelV y u → r x y H Q →
  subscripted slice false v u = operate [v, u] (getItem v u) → wpAny (model X.prog X.w) X.A (subscriptTail value slice v u) (EP X pins σ Q) X.xe s
def MtR (X : Cx) (id : String) (r : V → List V → Hp → VK → Prop) : Prop :=
 ∀ (pins : List (Addr × Obj)) (s : Shared) (σ : St) (H : Hp) (x : V) (xs : List V) (v : Value) (us : List Value) (Q : VK), Inv X pins σ H s → RelV x v → Vals xs us → r x xs H Q →
  wpAny (model X.prog X.w) X.A (call (.builtin id) (v :: us)) (EP X pins σ Q) X.xe s
section
variable {X : Cx} {a b : Expr} {ta tb : TE} {pos : Pos}
theorem IxR.or {r r' : R2} (h : IxR X r) (h' : IxR X r') : IxR X (fun x y H Q => r x y H Q ∨ r' x y H Q) := by
 intro value slice pins s σ H x y v u Q I rx ry q hs
 rcases q with q | q
 ·exact h value slice pins s σ H x y v u Q I rx ry q hs
 ·exact h' value slice pins s σ H x y v u Q I rx ry q hs
theorem pe_ix {r : R2} (hr : IxR X r) (ha : PE X a ta) (hb : PE X b tb) (hs : PlainIx b) : PE X (.Subscript a b pos) (tOp r ta tb) := by
 intro pins s σ H Q I h
 exact Subscript_ (binT ha hb I h fun v u s2 x y H2 I2 rx ry q => hr a b pins s2 σ H2 x y v u Q I2 rx ry q (hs _ _))
def rIxL (K : PySem.W.Frag) : R2 := fun x y H Q => ∃ p xs i v, x = .ref p ∧ y = .int i ∧ SqL K H p xs ∧ atI xs i = some v ∧ Q v H
def rIxT (K : PySem.W.Frag) : R2 := fun x y H Q => ∃ p xs i v, x = .ref p ∧ y = .int i ∧ SqT K H p xs ∧ atI xs i = some v ∧ Q v H
def rIxS : R2 := fun x y H Q => ∃ z i c, x = .str z ∧ y = .int i ∧ z.length ≤ sizeLine ∧ atI z.cps.toList i = some c ∧ Q (.str ⟨#[c]⟩) H
theorem ix_list : IxR X (rIxL X.K) := by
 intro value slice pins s σ H x y v u Q I rx ry h hs
 obtain ⟨p, xs, i, z, rfl, rfl, hq, he, q⟩ := h
 cases rx
 obtain ⟨t, rfl⟩ := ry
 obtain ⟨its, r, pl, hz⟩ := I.list hq
 obtain ⟨j, h1, h2, h3, h4, h5⟩ := atI_get he
 obtain ⟨w, ew, rw'⟩ := r.get h2
 have hl := r.length
 have hn := line63
 have fin : EP X pins σ Q w s := (fun ht => ⟨z, H, I, rw', q⟩)
 by_cases h0 : 0 ≤ i
 ·have hj : i.toNat = j := by
   rw [seqIndex_of h0 h5] at h1
   exact Option.some.inj h1
  exact item_listR pl.isList h0 (by omega) (by rw [hj]; simpa using ew) fin hs
 ·have hj : (i + (its.toArray.size : Int)).toNat = j := by
   rw [seqIndex_neg (by omega) h4] at h1
   rw [List.size_toArray, ← hl]
   exact Option.some.inj h1
  exact subscriptTail_builtinR (x := w) pl.isList.typeIs slot_list_getitem.lookup
   (wpAny_getItem_list_neg (Q := fun r s' => r = w ∧ EP X pins σ Q r s') pl.isList (by omega) (by rw [List.size_toArray] <;> omega) (by omega) (by rw [hj]; simpa using ew) ⟨rfl, fin⟩) hs
theorem ix_tup : IxR X (rIxT X.K) := by
 intro value slice pins s σ H x y v u Q I rx ry h hs
 obtain ⟨p, xs, i, z, rfl, rfl, hq, he, q⟩ := h
 cases rx
 obtain ⟨t, rfl⟩ := ry
 obtain ⟨its, r, pl, hz⟩ := I.tuple hq
 obtain ⟨j, h1, h2, h3, h4, h5⟩ := atI_get he
 obtain ⟨w, ew, rw'⟩ := r.get h2
 have hl := r.length
 have hn := line63
 have fin : EP X pins σ Q w s := (fun ht => ⟨z, H, I, rw', q⟩)
 exact subscriptTail_builtinR (x := w) pl.typeIs slot_tuple_getitem.lookup
  (getItem_tuple (j := j) (Q := fun r s' => r = w ∧ EP X pins σ Q r s') pl (by omega) (by omega) (by rw [List.size_toArray, ← hl]; exact h1) (by simpa using ew) ⟨rfl, fin⟩) hs
theorem ix_str : IxR X rIxS := by
 intro value slice pins s σ H x y v u Q I rx ry h hs
 obtain ⟨z, i, c, rfl, rfl, hz, he, q⟩ := h
 obtain ⟨t, rfl⟩ := rx
 obtain ⟨t', rfl⟩ := ry
 obtain ⟨j, h1, h2, h3, h4, h5⟩ := atI_get he
 have hl : z.cps.toList.length = z.length := by simp [Str.length]
 rw [hl] at h1 h4 h5
 have hn := line63
 exact tail_any (typeIs_str s z t) slot_str_getitem.lookup (getItem_str (c := c) (by
  have e1 : decide (i < -(2 ^ 63 : Int)) = false := decide_eq_false (by omega)
  have e2 : decide (i ≥ 2 ^ 63) = false := decide_eq_false (by omega)
  rw [e1, e2, Bool.or_false]) (by rw [h1]; simpa using h2) (fun ht => ⟨.str ⟨#[c]⟩, H, I.tok _, ⟨_, rfl⟩, q⟩)) hs
theorem Inv.lst {pins : List (Addr × Obj)} {σ : St} {H : Hp} {s : Shared} {p : Addr} {xs : List V} (I : Inv X pins σ H s) (h : H p = some (.lst xs)) :
  ∃ (its : List Value) (n : Nat), Vals xs its ∧ s.heap.get? p = some { cls := .type "list", data := .seq its.toArray n } ∧ xs.length ≤ sizeLine := by
 obtain ⟨z, its, n, r, e⟩ := I.hok p _ h
 exact ⟨its, n, r, e, z⟩
theorem slice_bounds (lo hi : Option Int) (n : Nat) : (sliceBounds lo hi none n).1 = ((HT.sIx n 0 lo : Nat) : Int) ∧ (sliceBounds lo hi none n).2.1 = ((HT.sIx n n hi : Nat) : Int) ∧ (sliceBounds lo hi none n).2.2 = 1 := by
 refine ⟨?_, ?_, rfl⟩
 ·cases lo with
  | none => simp [sliceBounds, HT.sIx]
  | some i =>
   simp only [sliceBounds, HT.sIx, Option.getD_none, show (1 : Int) > 0 by decide, if_true]
   by_cases h : i < 0
   ·simp only [h, if_true] <;> omega
   ·simp only [h, if_false] <;> omega
 ·cases hi with
  | none => simp [sliceBounds, HT.sIx]
  | some i =>
   simp only [sliceBounds, HT.sIx, Option.getD_none, show (1 : Int) > 0 by decide, if_true]
   by_cases h : i < 0
   ·simp only [h, if_true] <;> omega
   ·simp only [h, if_false] <;> omega
theorem slicePick_cut (its : List Value) (lo hi : Option Int) : slicePick its.toArray lo hi none = ((its.drop (HT.sIx its.length 0 lo)).take (HT.sIx its.length its.length hi - HT.sIx its.length 0 lo)).toArray := by
 obtain ⟨h1, h2, h3⟩ := slice_bounds lo hi its.toArray.size
 unfold slicePick
 rw [h1, h2, h3]
 simp only [sliceRange_one, pick_run, List.size_toArray] <;> rfl
def rSlL (K : PySem.W.Frag) : V → Option Int → Option Int → Hp → VK → Prop := fun x lo hi H Q => ∃ a xs, x = .ref a ∧ SqL K H a xs ∧ ∀ p, H p = none → Q (.ref p) (upd H p (.lst (cutV xs lo hi)))
theorem sl_list : SlR X (rSlL X.K) := by
 intro pins s σ H x v vl vu lo hi sl Q I rx hs pl pu h
 obtain ⟨a, xs, rfl, hx, q⟩ := h
 cases rx
 obtain ⟨its, r, ht, hz⟩ := I.list hx
 have hlen := r.length
 refine ⟨"list", _, slot_list_getitem.lookup, ht.isList.typeIs, ?_⟩
 refine wpAny_getItem_list_slice ht.isList hs pl pu .none (by simp) ?_ (by rw [List.size_toArray] <;> omega)
 rw [slicePick_cut, ← hlen]
 refine (fun ht => ⟨.ref s.heap.objs.size, _, I.laid (t' := s.toks) (o := .lst (cutV xs lo hi)) (fun b ob q => Heap.get?_push_of_some _ q) (Nat.le_refl _) ?_, rfl, q _ (I.hok.fresh (Nat.le_refl _))⟩)
 exact ⟨Nat.le_trans (cutV_length xs lo hi) hz, _, 0, (r.drop (HT.sIx xs.length 0 lo)).take (HT.sIx xs.length xs.length hi - HT.sIx xs.length 0 lo), Heap.get?_push_size _ rfl⟩
def flatV : V → Bool
 | .non => true
 | .bl _ => true
 | .int _ => true
 | .str _ => true
 | _ => false
def eqV : V → V → Bool
 | .non, .non => true
 | .bl a, .bl b => a == b
 | .bl a, .int b => (if a then 1 else 0) == b
 | .int a, .bl b => a == (if b then 1 else 0)
 | .int a, .int b => a == b
 | .str a, .str b => a == b
 | _, _ => false
theorem eqAt_V {A : Around} {s : Shared} {y x : V} {u v : Value} (ry : RelV y u) (rx : RelV x v) (fy : flatV y = true) (fx : flatV x = true) : SeqAt.EqAt A s u v (eqV y x) := by
 cases y with
 | non =>
  cases ry
  cases x with
  | non => cases rx; exact SeqAt.EqAt.same _
  | bl b => cases rx; exact SeqAt.EqAt.none_bool b
  | int b => obtain ⟨t, rfl⟩ := rx; exact SeqAt.EqAt.none_int b t
  | str b => obtain ⟨t, rfl⟩ := rx; exact SeqAt.EqAt.none_str b t
  | _ => exact absurd (show false = true from fx) Bool.false_ne_true
 | bl a =>
  cases ry
  cases x with
  | non => cases rx; exact SeqAt.EqAt.bool_none a
  | bl b => cases rx; exact SeqAt.EqAt.bool_bool a b
  | int b => obtain ⟨t, rfl⟩ := rx; exact SeqAt.EqAt.bool_int a b t
  | str b => obtain ⟨t, rfl⟩ := rx; exact SeqAt.EqAt.bool_str a b t
  | _ => exact absurd (show false = true from fx) Bool.false_ne_true
 | int a =>
  obtain ⟨t', rfl⟩ := ry
  cases x with
  | non => cases rx; exact SeqAt.EqAt.int_none a t'
  | bl b => cases rx; exact SeqAt.EqAt.int_bool a t' b
  | int b => obtain ⟨t, rfl⟩ := rx; exact SeqAt.EqAt.int_int a t' b t
  | str b => obtain ⟨t, rfl⟩ := rx; exact SeqAt.EqAt.int_str a t' b t
  | _ => exact absurd (show false = true from fx) Bool.false_ne_true
 | str a =>
  obtain ⟨t', rfl⟩ := ry
  cases x with
  | non => cases rx; exact SeqAt.EqAt.str_none a t'
  | bl b => cases rx; exact SeqAt.EqAt.str_bool a t' b
  | int b => obtain ⟨t, rfl⟩ := rx; exact SeqAt.EqAt.str_int a t' b t
  | str b => obtain ⟨t, rfl⟩ := rx; exact SeqAt.EqAt.str_str a t' b t
  | _ => exact absurd (show false = true from fx) Bool.false_ne_true
 | _ => exact absurd (show false = true from fy) Bool.false_ne_true
def eqU (x : V) (u : Value) : Bool := match u with
 | .none => eqV .non x
 | .bool b => eqV (.bl b) x
 | .int i _ => eqV (.int i) x
 | .str z _ => eqV (.str z) x
 | _ => false
theorem eqU_of {x y : V} {u : Value} (r : RelV y u) (f : flatV y = true) : eqU x u = eqV y x := by
 cases y with
 | non => cases r; rfl
 | bl b => cases r; rfl
 | int i => obtain ⟨t, rfl⟩ := r; rfl
 | str z => obtain ⟨t, rfl⟩ := r; rfl
 | _ => exact absurd (show false = true from f) Bool.false_ne_true
theorem any_eqU {x : V} : ∀ {xs : List V} {us : List Value}, Vals xs us → xs.all flatV = true → us.any (eqU x) = xs.any fun y => eqV y x
 | _, _, .nil, _ => rfl
 | y :: xs, u :: us, .cons r t, f => by
  rw [List.all_cons, Bool.and_eq_true] at f
  rw [List.any_cons, List.any_cons, eqU_of r f.1, any_eqU t f.2]
theorem mem_eqAt {A : Around} {s : Shared} {x : V} {v : Value} (rx : RelV x v) (fx : flatV x = true) : ∀ {xs : List V} {us : List Value}, Vals xs us → xs.all flatV = true → ∀ u ∈ us, SeqAt.EqAt A s u v (eqU x u)
 | _, _, .nil, _ => fun u hu => by cases hu
 | y :: xs, u :: us, .cons r t, f => fun u' hu => by
  rw [List.all_cons, Bool.and_eq_true] at f
  rcases List.mem_cons.mp hu with rfl | hu
  ·rw [eqU_of r f.1]; exact eqAt_V r rx f.1 fx
  ·exact mem_eqAt rx fx t f.2 u' hu
def inV (x : V) (xs : List V) : Bool := xs.any fun y => eqV y x
def rIn (K : PySem.W.Frag) (neg : Bool) : R2 := fun x y H Q => ∃ p xs, y = .ref p ∧ (SqL K H p xs ∨ SqT K H p xs) ∧ flatV x = true ∧ xs.all flatV = true ∧ Q (.bl (if neg then !inV x xs else inV x xs)) H
theorem op_in_seq : OpR X (compareOp .In) (rIn X.K false) := by
 intro pins s σ H x y v u Q I rx ry h
 obtain ⟨p, xs, rfl, hq, fx, fs, q⟩ := h
 cases ry
 rcases hq with hq | hq
 ·obtain ⟨its, r, pl, hz⟩ := I.list hq
  refine SeqAt.in_listAt (eqU x) pl.isList (fun w hw => mem_eqAt rx fx r fs w (by simpa using hw)) (fun ht => ⟨.bl _, H, I, rfl, ?_⟩)
  rw [show its.toArray.any (eqU x) = its.any (eqU x) by simp, any_eqU r fs]
  exact q
 ·obtain ⟨its, r, pl, hz⟩ := I.tuple hq
  refine SeqAt.in_tupleAt (eqU x) pl (fun w hw => mem_eqAt rx fx r fs w (by simpa using hw)) (fun ht => ⟨.bl _, H, I, rfl, ?_⟩)
  rw [show its.toArray.any (eqU x) = its.any (eqU x) by simp, any_eqU r fs]
  exact q
theorem op_notIn_seq : OpR X (compareOp .NotIn) (rIn X.K true) := by
 intro pins s σ H x y v u Q I rx ry h
 obtain ⟨p, xs, rfl, hq, fx, fs, q⟩ := h
 cases ry
 rcases hq with hq | hq
 ·obtain ⟨its, r, pl, hz⟩ := I.list hq
  refine SeqAt.notIn_listAt (eqU x) pl.isList (fun w hw => mem_eqAt rx fx r fs w (by simpa using hw)) (fun ht => ⟨.bl _, H, I, rfl, ?_⟩)
  rw [show its.toArray.any (eqU x) = its.any (eqU x) by simp, any_eqU r fs]
  exact q
 ·obtain ⟨its, r, pl, hz⟩ := I.tuple hq
  refine SeqAt.notIn_tupleAt (eqU x) pl (fun w hw => mem_eqAt rx fx r fs w (by simpa using hw)) (fun ht => ⟨.bl _, H, I, rfl, ?_⟩)
  rw [show its.toArray.any (eqU x) = its.any (eqU x) by simp, any_eqU r fs]
  exact q
theorem call_len_seq : CallR X (.builtin "len") (fun xs H Q => ∃ p ys, xs = [.ref p] ∧ (SqL X.K H p ys ∨ SqT X.K H p ys) ∧ Q (.int ys.length) H) := by
 intro pins s σ H xs us Q I r h
 obtain ⟨p, ys, rfl, hq, q⟩ := h
 obtain ⟨u, rfl, rx⟩ := vals1 r
 cases rx
 have hn := line63
 rcases hq with hq | hq
 ·obtain ⟨its, r', pl, hz⟩ := I.list hq
  have hlen := r'.length
  exact Calls.call_len_list pl.isList (by simp only [List.size_toArray] <;> omega) (fun ht => ⟨.int ys.length, H, I.tok _, ⟨s.toks + 1, by rw [List.size_toArray, hlen]⟩, q⟩)
 ·obtain ⟨its, r', pl, hz⟩ := I.tuple hq
  have hlen := r'.length
  exact len_tuple pl (by simp only [List.size_toArray] <;> omega) (fun ht => ⟨.int ys.length, H, I.tok _, ⟨s.toks + 1, by rw [List.size_toArray, hlen]⟩, q⟩)
theorem call_len_str : CallR X (.builtin "len") (fun xs H Q => ∃ z, xs = [.str z] ∧ z.length ≤ sizeLine ∧ Q (.int z.length) H) := by
 intro pins s σ H xs us Q I r h
 obtain ⟨z, rfl, hz, q⟩ := h
 obtain ⟨u, rfl, t, rfl⟩ := vals1 r
 have hn := line63
 exact len_str (by omega) (fun ht => ⟨.int z.length, H, I.tok _, ⟨_, rfl⟩, q⟩)
theorem CallR.or {f : Value} {r r' : List V → Hp → VK → Prop} (h : CallR X f r) (h' : CallR X f r') : CallR X f (fun xs H Q => r xs H Q ∨ r' xs H Q) := by
 intro pins s σ H xs us Q I rs q
 rcases q with q | q
 ·exact h pins s σ H xs us Q I rs q
 ·exact h' pins s σ H xs us Q I rs q
theorem call_list_of : CallR X (.type "list") (fun xs H Q => ∃ p ys, xs = [.ref p] ∧ (SqL X.K H p ys ∨ SqT X.K H p ys) ∧ ∀ l, H l = none → Q (.ref l) (upd H l (.lst ys))) := by
 intro pins s σ H xs us Q I r h
 obtain ⟨p, ys, rfl, hq, q⟩ := h
 obtain ⟨u, rfl, rx⟩ := vals1 r
 cases rx
 have fin : ∀ (its : List Value), Vals ys its → ys.length ≤ sizeLine → ∀ (h' : Heap) (c' : Nat), (∀ b o', s.heap.get? b = some o' → h'.get? b = some o') →
   h'.get? s.heap.objs.size = some { cls := .type "list", dict := none, data := .seq its.toArray c', slots := #[] } → EP X pins σ Q (.ref s.heap.objs.size) { s with heap := h' } := fun its r' hz h' c' kp e =>
  (fun ht => ⟨.ref s.heap.objs.size, _, I.laid (t' := s.toks) kp (Nat.le_refl _) (show ObjOk X.prog X.w _ h' _ (.lst ys) from ⟨hz, its, c', r', e⟩), rfl, q _ (I.hok.fresh (Nat.le_refl _))⟩)
 rcases hq with hq | hq
 ·obtain ⟨its, r', pl, hz⟩ := I.list hq
  have hlen := r'.length
  obtain ⟨o, ho, hc, n, hd⟩ := pl.isList
  exact call_list_seq p (.inl rfl) ho hc hd (fun h' c' kp e => fin its r' hz h' c' kp e) (by simp only [List.size_toArray] <;> omega)
 ·obtain ⟨its, r', pl, hz⟩ := I.tuple hq
  have hlen := r'.length
  obtain ⟨o, ho, hc, n, hd⟩ := pl
  exact call_list_seq p (.inr rfl) ho hc hd (fun h' c' kp e => fin its r' hz h' c' kp e) (by simp only [List.size_toArray] <;> omega)
def tyV (K : PySem.W.Frag) (T : String) (x : V) (H : Hp) : Prop := match x with
 | .str _ => T = "str"
 | .int _ => T = "int"
 | .ref p => (T = "list" ∧ ∃ xs, SqL K H p xs) ∨ (T = "tuple" ∧ ∃ o, K.lookup p = some o ∧ o.cls = .type "tuple" ∧ o.dict = none) ∨
   (T = "dict" ∧ ((∃ kvs, H p = some (.dK kvs)) ∨ ∃ kvs, H p = some (.dT kvs))) ∨ (T = "set" ∧ ∃ S n, H p = some (.set S n))
 | _ => False
theorem tyV_is {pins : List (Addr × Obj)} {σ : St} {H : Hp} {s : Shared} {T : String} {x : V} {v : Value} (I : Inv X pins σ H s) (r : RelV x v) (ty : tyV X.K T x H) :
  s.TypeIs v T ∧ ∀ a, v = .ref a → ∃ ob, s.heap.get? a = some ob ∧ ob.dict = none := by
 cases x with
 | str z =>
  obtain ⟨t, rfl⟩ := r
  cases (show T = "str" from ty)
  exact ⟨typeIs_str s z t, fun _ e => nomatch e⟩
 | int i =>
  obtain ⟨t, rfl⟩ := r
  cases (show T = "int" from ty)
  exact ⟨typeIs_int s i t, fun _ e => nomatch e⟩
 | ref p =>
  cases r
  rcases ty with ⟨rfl, xs, hq⟩ | ⟨rfl, o, hk, hc, hd⟩ | ⟨rfl, hk⟩ | ⟨rfl, S, n, hk⟩
  ·obtain ⟨its, _, pl, _⟩ := I.list hq
   refine ⟨pl.isList.typeIs, fun a e => ?_⟩
   cases e
   obtain ⟨o, n, e, c, hd, _⟩ := pl
   exact ⟨o, e, hd⟩
  ·refine ⟨⟨o, I.kIn p o hk, hc⟩, fun a e => ?_⟩
   cases e
   exact ⟨o, I.kIn _ o hk, hd⟩
  ·have z : ∃ o, s.heap.get? p = some o ∧ o.ExactDict := by
    rcases hk with ⟨kvs, hk⟩ | ⟨kvs, hk⟩
    ·obtain ⟨_, _, _, _, o, _, _, e, ex, _⟩ := I.hok p _ hk
     exact ⟨o, e, ex⟩
    ·obtain ⟨_, _, _, _, o, _, _, e, ex, _⟩ := I.hok p _ hk
     exact ⟨o, e, ex⟩
   obtain ⟨o, e, ex⟩ := z
   refine ⟨⟨o, e, ex.1⟩, fun a e2 => ?_⟩
   cases e2
   exact ⟨o, e, ex.2.1⟩
  ·obtain ⟨o, _, _, _, e, ex, _⟩ := I.hok p _ hk
   refine ⟨⟨o, e, ex.1⟩, fun a e2 => ?_⟩
   cases e2
   exact ⟨o, e, ex.2.1⟩
 | _ => exact False.elim ty
def tBM (K : PySem.W.Frag) (T : String) (r : V → List V → Hp → VK → Prop) (to : TE) (t : TA) : TE := fun σ H Q => to σ H fun x H1 => tyV K T x H1 ∧ t σ H1 fun xs H2 => r x xs H2 Q
variable {o e : Expr} {es : List Expr} {to : TE} {t : TA} {name : Str} {apos cpos : Pos} {T id : String} {r : V → List V → Hp → VK → Prop}
theorem pe_bm (pa : PlainAttrs T) (slot : Slot T name id) (hty : typeOf (.builtin id) = pure (.type "method_descriptor")) (hm : MtR X id r) (ho : PE X o to) (ha : PA X (e :: es) t)
  (hbase : attributeBase o name X.env (eval o X.env) = eval o X.env := by rfl)
  (hfew : ((backTo cpos (starEach (e :: es) X.env)).all (fun x => !x.1) && (backToKw cpos (keywordEach [] X.env)).all (fun x => x.1.isSome)
   && decide ((e :: es).length + ([] : List Keyword).length + (if ([] : List Keyword).isEmpty then 0 else 1) < 30)) = true := by rfl)
  (hline : (apos.endLine == cpos.line) = true := by rfl) (hs : starEach (e :: es) X.env = (false, eval e X.env) :: starEach es X.env := by rfl) (hplain : (backTo cpos (starEach es X.env)).any (·.1) = false := by rfl) :
  PE X (.Call (.Attribute o name apos) (e :: es) [] cpos) (tBM X.K T r to t) := by
 intro pins s σ H Q I h
 refine wpAny_Call_method_late hbase hfew hline rfl (thn (ho pins s σ H _ I h) fun v s1 ⟨x, H1, I1, r1, ty, q1⟩ => ?_)
 obtain ⟨h1, h2⟩ := tyV_is I1 r1 ty
 refine ⟨T, id, pa, slot, hty, h1, h2, ?_⟩
 have hA := ha cpos pins s1 σ H1 _ I1 q1
 rw [hs] at hA ⊢
 refine Calls.callWith_builtin (by show (false || (backTo cpos (starEach es X.env)).any (·.1)) = false; rw [hplain] <;> rfl) (Calls.evalArgs_plain ?_)
 exact thn hA fun us s2 ⟨vs, H2, I2, r2, q2⟩ => hm pins s2 σ H2 x vs v us Q I2 r1 r2 q2
end
def MtM (X : Cx) (id : String) (r : V → List V → Hp → VK → Prop) : Prop :=
 ∀ (pins : List (Addr × Obj)) (s : Shared) (σ : St) (H : Hp) (x : V) (xs : List V) (v : Value) (us : List Value) (Q : VK), Inv X pins σ H s → RelV x v → Vals xs us → r x xs H Q →
  wpAny (model X.prog X.w) X.A (call (.builtin id) (v :: us)) (EP X pins σ Q) X.xe s
theorem Vals.one : ∀ {x : V} {us : List Value}, Vals [x] us → ∃ u, us = [u] ∧ RelV x u
 | _, _, .cons r .nil => ⟨_, rfl, r⟩
theorem Vals.two : ∀ {x y : V} {us : List Value}, Vals [x, y] us → ∃ u v, us = [u, v] ∧ RelV x u ∧ RelV y v
 | _, _, _, .cons r (.cons q .nil) => ⟨_, _, rfl, r, q⟩
theorem Vals.zero : ∀ {us : List Value}, Vals [] us → us = []
 | _, .nil => rfl
theorem Vals.dropLast {xs : List V} {us : List Value} (h : Vals xs us) : Vals xs.dropLast us.dropLast := by
 induction h with
 | nil => exact .nil
 | cons r t ih =>
  cases t with
  | nil => exact .nil
  | cons q t' => exact .cons r ih
theorem Vals.reverse {xs : List V} {us : List Value} (h : Vals xs us) : Vals xs.reverse us.reverse := by
 induction h with
 | nil => exact .nil
 | cons r t ih => rw [List.reverse_cons, List.reverse_cons]; exact Vals.append ih (.cons r .nil)
theorem Vals.rep {xs : List V} {us : List Value} (h : Vals xs us) : ∀ k : Nat, Vals (List.replicate k xs).flatten (List.replicate k us).flatten
 | 0 => .nil
 | k + 1 => by
  rw [List.replicate_succ, List.replicate_succ, List.flatten_cons, List.flatten_cons]
  exact Vals.append h (Vals.rep h k)
theorem foldl_rep (its : List Value) : ∀ (k : Nat) (acc : List Value),
  List.foldl (fun x1 x2 => x1 ++ x2) acc.toArray (List.replicate k its.toArray) = (acc ++ (List.replicate k its).flatten).toArray
 | 0, acc => by simp
 | k + 1, acc => by
  have e : acc.toArray ++ its.toArray = (acc ++ its).toArray := by simp
  have e2 : (acc ++ its) ++ (List.replicate k its).flatten = acc ++ (List.replicate (k + 1) its).flatten := by
   rw [List.replicate_succ, List.flatten_cons, List.append_assoc]
  rw [← e2, ← foldl_rep its k (acc ++ its), ← e, List.replicate_succ, List.foldl_cons]
section
variable {X : Cx} {pins : List (Addr × Obj)} {σ : St} {H : Hp} {s : Shared} {l b : Addr} {xs ys zs : List V}
theorem Inv.lset {its its' : List Value} {n : Nat} {f : Array Value → Array Value} {t' : Nat} (I : Inv X pins σ H s) (hH : H l = some (.lst xs))
  (e : s.heap.get? l = some { cls := .type "list", data := .seq its.toArray n }) (hf : f its.toArray = its'.toArray) (hv : Vals ys its') (hz : ys.length ≤ sizeLine) (ht : 0 < t' := by first | assumption | exact Inv.tk (by assumption)) :
  Inv X pins σ (upd H l (.lst ys)) { s with heap := s.heap.update l (Obj.mapSeq f), toks := t' } := by
 have q := PySem.IsL.update e f
 rw [hf] at q
 refine I.write (x := l) (e := l) (by rw [hH]; exact trivial) (.inl rfl) (fun b' u hb hu => (Heap.get?_update_other s.heap (Obj.mapSeq f) (Ne.symm hb)).trans hu) ⟨_, q⟩ ?_ ht
 exact ⟨hz, its', _, hv, q⟩
theorem Inv.lnew {its : List Value} {t' : Nat} (I : Inv X pins σ H s) (hv : Vals ys its) (hz : ys.length ≤ sizeLine) (ht : 0 < t' := by first | assumption | exact Inv.tk (by assumption)) :
  Inv X pins σ (upd H s.heap.objs.size (.lst ys)) { s with heap := s.heap.push { cls := .type "list", data := .seq its.toArray }, toks := t' } :=
 I.laid (fun _ _ q => Heap.get?_push_of_some _ q) (Nat.le_refl _) ⟨hz, its, 0, hv, Heap.get?_push_size _ rfl⟩ ht
theorem Inv.fresh (I : Inv X pins σ H s) : H s.heap.objs.size = none := I.hok.fresh (Nat.le_refl _)
theorem Inv.lstM (I : Inv X pins σ H s) (hH : H l = some (.lst xs)) : xs.length ≤ sizeLine ∧ ∃ (its : List Value) (n : Nat), Vals xs its ∧ xs.length = its.length ∧ s.heap.get? l = some { cls := .type "list", data := .seq its.toArray n } := by
 obtain ⟨z, its, n, r, e⟩ := I.hok l _ hH
 exact ⟨z, its, n, r, r.length, e⟩
theorem notLongL {n : Nat} (h : n ≤ sizeLine) : Builtin.List.listTooLong n = false := by
 unfold Builtin.List.listTooLong
 exact decide_eq_false (by omega)
end
section
variable {X : Cx}
def rAppend : V → List V → Hp → VK → Prop := fun x vs H Q => ∃ l xs y, x = .ref l ∧ vs = [y] ∧ H l = some (.lst xs) ∧ xs.length < sizeLine ∧ Q .non (upd H l (.lst (xs ++ [y])))
theorem mt_append : MtM X "list.append" rAppend := by
 intro pins s σ H x vs v us Q I rx rv h
 obtain ⟨l, xs, y, rfl, rfl, hH, hz, q⟩ := h
 cases rx
 obtain ⟨u, rfl, ru⟩ := rv.one
 obtain ⟨z, its, n, r, hl, e⟩ := I.lstM hH
 refine call_meets F.slot_list_append ⟨_, e, rfl⟩ F.entry_list_append (F.args_list_append_2 _ _) (PySem.list_append l its.toArray n u (by rw [List.size_toArray]; omega)) ⟨e, ?_⟩
 refine (fun ht => ⟨.non, _, I.lset (its' := its ++ [u]) hH e (by simp) (r.append (.cons ru .nil)) ?_, rfl, q⟩)
 rw [List.length_append, List.length_singleton]
 omega
def rRep : R2 := fun x y H Q => ∃ l k xs, x = .ref l ∧ y = .int k ∧ H l = some (.lst xs) ∧ -(2 ^ 63) ≤ k ∧ k < 2 ^ 63 ∧ xs.length * k.toNat ≤ sizeLine ∧
 ∀ p, H p = none → Q (.ref p) (upd H p (.lst (List.replicate k.toNat xs).flatten))
theorem len_rep {α : Type} (xs : List α) (k : Nat) : (List.replicate k xs).flatten.length = k * xs.length := by
 induction k with
 | zero => simp
 | succ k ih => rw [List.replicate_succ, List.flatten_cons, List.length_append, ih, Nat.succ_mul, Nat.add_comm]
theorem op_rep : OpR X (binaryOp .Mult) rRep := by
 intro pins s σ H x y v u Q I rx ry h
 obtain ⟨l, k, xs, rfl, rfl, hH, h1, h2, hz, q⟩ := h
 cases rx
 obtain ⟨t, rfl⟩ := ry
 obtain ⟨z, its, n, r, hl, e⟩ := I.lstM hH
 have hlen : its.toArray.size * k.toNat ≤ sizeLine := by rw [List.size_toArray, ← hl]; exact hz
 have hcap : ¬ its.toArray.size * k.toNat > (2 ^ 63 - 1) / 8 := by
  have : (sizeLine : Nat) ≤ (2 ^ 63 - 1) / 8 := by decide
  omega
 have hfit : ¬ (!Builtin.List.listFitsIndex k) = true := by
  rw [fitsIndex_both h1 h2]
  exact Bool.false_ne_true
 have hlong : ¬ Builtin.List.listTooLong (its.toArray.size * k.toNat) = true := by
  rw [notLongL hlen]
  exact Bool.false_ne_true
 have hnew : List.foldl (fun x1 x2 => x1 ++ x2) #[] (List.replicate (if its.toArray.isEmpty = true then 0 else k.toNat) its.toArray) = (List.replicate k.toNat its).flatten.toArray := by
  have f0 : ∀ m : Nat, List.foldl (fun x1 x2 => x1 ++ x2) #[] (List.replicate m its.toArray) = (List.replicate m its).flatten.toArray := fun m => by
   have := foldl_rep its m []
   rw [List.nil_append] at this
   exact this
  rw [f0]
  cases its with
  | nil => simp
  | cons a r' => rw [if_neg (by simp)]
 refine wpAny_binaryOp_repeat_ref (T := "list") (U := "int") (by decide) ⟨_, e, rfl⟩ (fun s' => typeIs_int s' k t) noFill_list_mul F.fills_int_mul F.slot_int_rmul repeat_list F.slot_int_index.lookup
  (call_meets F.slot_int_rmul (typeIs_int s k t) F.entry_int_rmul (F.args_int_rmul_2 _ _) (int___rmul___int_list k t l its.toArray n)
   ⟨e, rfl, ⟨_, e, rfl⟩, call_meets F.slot_list_mul ⟨_, e, rfl⟩ F.entry_list_mul (F.args_list_mul_2 _ _) (AutoListH.list___mul___list_int_3 l its.toArray n k t hfit hcap hlong) ⟨e, ?_⟩⟩)
 rw [hnew]
 exact (fun ht => ⟨.ref _, _, I.lnew (t' := s.toks) (r.rep k.toNat) (by rw [len_rep, Nat.mul_comm]; exact hz), rfl, q _ I.fresh⟩)
end
end L2
namespace Att
open PySem PySem.W PySem.Calls PyProof.Rows
theorem ints_of_wellAll {P : Params} {h : Heap} : ∀ (ns : List Int) (vs : List Value), WellAll P h vs (ns.map WData.int) → IntsAre vs ns := by
 intro ns
 induction ns with
 | nil =>
  intro vs w
  rw [List.map_nil] at w
  cases w
  exact .nil
 | cons n ns ih =>
  intro vs w
  rw [List.map_cons] at w
  cases w with
  | cons a b =>
   cases a
   exact .cons _ _ (ih _ b)
theorem script_of {l : OpenLaw} {n : Nat} (hn : l.most = some n) {P : Params} {h : Heap} {args : List WData} {vals : List Value}
  (hpre : l.row.toRowW.claim.pre args = true) (hwl : WellAll P h vals args) :
  ∃ a vs ns, vals = [Value.ref a] ∧ args = [WData.list (ns.map WData.int)] ∧ h.get? a = some { cls := .type "list", data := .seq vs.toArray } ∧ IntsAre vs ns ∧ ns.length ≤ n := by
 have hsh : WShape.hasAll [] args [.list .int] = true := (pre_splitW hpre).1
 have hc : l.pre.holds [] { args := args } = true := (pre_splitW hpre).2
 obtain ⟨d, r, rfl, h1, h2⟩ := hasAllW_cons hsh
 obtain rfl := hasAllW_nil h2
 obtain ⟨xs, rfl, h3⟩ := hasW_list h1
 obtain ⟨ns, rfl⟩ := items_int h3
 have hlen : ns.length ≤ n := by
  unfold OpenLaw.pre at hc
  have h4 : (WTm.not (.lt (.lit (.int (n : Int))) (.len (.arg 0)))).holds [] { args := [.list (ns.map .int)] } = true := by
   have h4 := (holds_andW hc).1
   rw [hn] at h4
   exact h4
  have h5 := condW_of h4 (w_not (w_lt w_lit (w_len_list (w_arg rfl))))
  rw [List.length_map] at h5
  refine Nat.le_of_not_lt fun q => ?_
  have q' : (n : Int) < ((ns.length : Nat) : Int) := by omega
  first
   | (rw [decide_eq_true q'] at h5; exact absurd h5 (by decide))
   | (simp at h5; omega)
 cases hwl with
 | cons w1 w2 =>
  cases w2
  cases w1 with
  | list ho hall => exact ⟨_, _, ns, rfl, rfl, ho, ints_of_wellAll ns _ hall, hlen⟩
theorem post_true (l : OpenLaw) (args : List WData) : l.row.toRowW.claim.post args (.bool true) args = true :=
 postW_of (r := l.row.toRowW) (X := (true == true))
  (show WShape.has [] (.bool true) .bool = true by first | rfl | decide | simp [WShape.has, WShape.arms, WShape.armsAll])
  (show (WTm.eq .res (.lit (.bool true))).value [] { args := args, res := some (.bool true), after := args } = some (.bool (true == true)) from w_eq_bool (w_res rfl) w_lit) rfl
theorem attach_call {l : OpenLaw} {n : Nat} {q : Program} {loose : List Str} {XP : (Str → Option Value) → Heap → Prop} {YP : World → Heap → Prop} {d : DefRec}
  (hn : l.most = some n) (hdf : d.params.defaults = [])
  (call : ∀ (w : World) (s₀ s₁ : Shared) (mg mb : Str → Option Value) (fa : Addr) (o : Obj) (pm cd doc : Value) (a : Addr) (vs : List Value) (ns : List Int),
   Ground q loose [] XP w s₀ mg mb s₁.heap → YP w s₁.heap →
   s₁.heap.get? fa = some o → o.data = .func (docDef d.name d.params d.body d.scope pm cd doc) → s₁.heap.CodeRec cd d.name → mg d.name = some (.ref fa) →
   s₁.heap.get? a = some { cls := .type "list", data := .seq vs.toArray } → IntsAre vs ns → ns.length ≤ n → s₁.gens = #[] →
   codeAny (model l.prog w) callerA (.call (.ref fa) ⟨[.ref a], []⟩) (fun r s' => r = .ok (.ret (.bool true)) ∧ OldK s₁.heap s'.heap ∧ s'.os = s₁.os ∧ AllBare s'.gens) s₁) :
  WalkO q loose XP YP l.row.toRowW d [] (fun f vs => PySem.call f vs) := by
 intro w s₀ s₁ mg mb G Y fa o pm cd doc dV kV ho hd hcd hD hmg hg args vals as hpre hlay hrd hwl hlo
 obtain rfl : dV = .none := Dflts.none hD hdf
 obtain rfl : kV = .none := Dflts.noKw hD
 obtain ⟨a, vs, ns, rfl, rfl, hobj, hints, hlen⟩ := script_of hn hpre hwl
 refine enter_call (codeAny_mono (call w s₀ s₁ mg mb fa o pm cd doc a vs ns G Y ho (fd_plain hd) hcd hmg hobj hints hlen hg) fun r s' hq => ?_)
 obtain ⟨rfl, h2, h3, h4⟩ := hq
 exact ⟨.inl ⟨.bool true, .bool true, [], rfl, fun _ => rfl, .bool true, post_true l _, fun _ => ⟨List.Pairwise.nil, fun _ hm => (nomatch hm)⟩⟩, h2, h3, h4⟩
end Att
namespace L2
open PySem PySem.Spec PyProof.Rows
theorem vals_ints : ∀ {vs : List Value} {ns : List Int}, IntsAre vs ns → Vals (ns.map V.int) vs
 | _, _, .nil => .nil
 | _, _, .cons n t h => .cons ⟨t, rfl⟩ (vals_ints h)
def defArgs (s : Stmt) : Arguments := match s with
 | .FunctionDef _ a _ _ _ _ _ _ _ _ => a
 | _ => { posonlyargs := [], args := [], vararg := none, kwonlyargs := [], kw_defaults := [], kwarg := none, defaults := [] }
def defBody (s : Stmt) : List Stmt := match s with
 | .FunctionDef _ _ b _ _ _ _ _ _ _ => b
 | _ => []
def defScope (s : Stmt) : Scope := match s with
 | .FunctionDef _ _ _ _ _ _ sc _ _ _ => sc
 | _ => { kind := .function, names := [], isGenerator := false, isCoroutine := false }
abbrev CX0 : CXT := fun _ _ _ _ _ _ => False
abbrev E0 : XK := fun _ _ _ => False
structure Fun (K : PySem.W.Frag) (x qual : Str) (st : Stmt) (f : Addr) (fd : FuncData) : Prop where
 ex : ∃ (oc : Value) (od : Option Addr) (kV doc pm : Value) (an : Option Addr) (cdv ct : Value) (osl : Array (Option Value)),
  fd = PySem.W.fnOf x qual (defArgs st) (defBody st) (defScope st) .none kV doc pm an cdv ct ∧ K.lookup f = some ⟨oc, od, .func fd, osl⟩ ∧ PySem.W.codeIn K cdv qual = true
 kp : PySem.W.keepIn K (.ref f) = true
section
variable {P : Program} {w : World} {K : PySem.W.Frag} {mg : Str → Option Value} {base : Heap}
theorem Fun.ok {x qual : Str} {st : Stmt} {f : Addr} {fd : FuncData} {N ps : List Str} {k : Nat} {sp : Sp} (F : Fun K x qual st f fd) (S : FnScope N ps (defScope st)) (len : ∀ vs H Q E, sp vs H Q E → vs.length = ps.length)
  (hbody : ∀ (cdv : Value) (A : Around) (outer : List Env) (s : Shared) (H : Hp) (vs : List V) (Q : VK) (E : XK), Room k (A.deeper (envOfC qual (defScope st) s.heap.objs.size f cdv)) → sp vs H Q E →
   ∃ t, PSs (cxOf CX0 P w K mg base N qual (defScope st) f cdv A outer s H E).nox (defBody st) t ∧ t { nx := fun _ H' => Q .non H', rt := Q } (start N vs) H) (hf : ps = [lawS] → (defScope st).names.lookup lawS = some .local := by first | assumption | decide +kernel) : FnOk P w K mg base CX0 (k + 1) f fd ps sp := by
 obtain ⟨oc, od, kV, doc, pm, an, cdv, ct, osl, rfl, lk, hcd⟩ := F.ex
 refine fn_of lk hcd S hf len fun A outer s H vs Q E hr hsp => ?_
 obtain ⟨t, h, q⟩ := hbody cdv A outer s H vs Q E hr hsp
 exact ⟨t, h.nox, q⟩
theorem Fun.binds {x qual : Str} {st : Stmt} {f : Addr} {fd : FuncData} {ps : List Str} (F : Fun K x qual st f fd)
  (h : ∀ (kV doc pm : Value) (an : Option Addr) (cdv ct : Value) (us : List Value), us.length = ps.length → bindArgs (PySem.W.fnOf x qual (defArgs st) (defBody st) (defScope st) .none kV doc pm an cdv ct) ⟨us, []⟩ = pure (ps.zip us)) : Binds K fd ps [] := by
 obtain ⟨oc, od, kV, doc, pm, an, cdv, ct, osl, rfl, lk, hcd⟩ := F.ex
 exact .all (h kV doc pm an cdv ct)
theorem fun_mk {x qual : Str} {st : Stmt} {f : Addr} {oc : Value} {od an : Option Addr} {osl : Array (Option Value)} {kV doc pm cdv ct : Value} (l : K.lookup f = some ⟨oc, od, .func (PySem.W.fnOf x qual (defArgs st) (defBody st) (defScope st) .none kV doc pm an cdv ct), osl⟩)
  (c : PySem.W.codeIn K cdv qual = true) (k : PySem.W.keepIn K (.ref f) = true) : Fun K x qual st f (PySem.W.fnOf x qual (defArgs st) (defBody st) (defScope st) .none kV doc pm an cdv ct) := ⟨⟨oc, od, kV, doc, pm, an, cdv, ct, osl, rfl, l, c⟩, k⟩
end
section
variable {X : Cx}
theorem pv (i : Nat) {x : Str} {pos : Pos} (hN : X.N[i]? = some x := by rfl) (hv : Vis X.env.scope x := by first | exact Or.inl rfl | exact Or.inr (Or.inl rfl) | exact Or.inr (Or.inr rfl)) (hd : (x == ("__debug__" : Str)) = false := by decide)
  (hcd : (x == ("__classdict__" : Str)) = false := by decide) : PE X (.Name x pos) (tVar i) := pe_var hN hv hd hcd
end
def Same (H H' : Hp) : Prop := ∀ b o, H b = some o → H' b = some o
theorem Same.refl (H : Hp) : Same H H := fun _ _ h => h
theorem Same.trans {H H1 H2 : Hp} (a : Same H H1) (b : Same H1 H2) : Same H H2 := fun c o h => b c o (a c o h)
theorem Same.free {H H' : Hp} (e : Same H H') {l : Addr} (h : H' l = Option.none) : H l = Option.none := by
 cases q : H l with
 | none => rfl
 | some o =>
  rw [e l o q] at h
  cases h
theorem Same.seq {K : PySem.W.Frag} {H H' : Hp} {a : Addr} {xs : List V} (e : Same H H') (h : SqL K H a xs) : SqL K H' a xs := by
 rcases h with (h | ⟨o, h⟩) | h
 ·exact .inl (.inl (e _ _ h))
 ·exact .inl (.inr ⟨o, e _ _ h⟩)
 ·exact .inr h
end L2
set_option maxHeartbeats 4000000
namespace L2
open PySem PySem.Spec PyProof.Rows
def closOf (names : List (Str × NameKind)) (cells : List (Str × Addr)) : List (Str × Addr) :=
 names.foldl (fun cs p => if p.2 == .free then (p.1, (cells.lookup p.1).getD 0) :: cs else cs) []
theorem clos_go {env : Env} : ∀ (names : List (Str × NameKind)) (cs : List (Str × Addr)), (∀ x ∈ names, x.2 = .free → ∃ c, env.cells.lookup x.1 = some c) →
  (forIn names cs (fun (x : Str × NameKind) (cs : List (Str × Addr)) => match x with | (name, kind) => if (kind == NameKind.free) = true then do let a ← cellOf env name; pure (ForInStep.yield ((name, a) :: cs)) else pure (ForInStep.yield cs)) : Sem (List (Str × Addr)))
   = pure (names.foldl (fun cs p => if p.2 == .free then (p.1, (env.cells.lookup p.1).getD 0) :: cs else cs) cs)
 | [], cs, _ => rfl
 | (n, k) :: r, cs, h => by
  rw [List.forIn_cons, List.foldl_cons]
  have ih := fun cs' => clos_go (env := env) r cs' fun x hx => h x (List.mem_cons_of_mem _ hx)
  cases hk : (k == NameKind.free) with
  | false =>
   simp only [hk, Bool.false_eq_true, if_false, pure_bind]
   exact ih cs
  | true =>
   obtain ⟨c, hc⟩ := h (n, k) List.mem_cons_self (by simpa using hk)
   have e : cellOf env n = pure c := by unfold cellOf; rw [hc]
   simp only [hk, if_true, e, pure_bind]
   rw [hc]
   exact ih _
theorem closureFor_of {scope : Scope} {env : Env} (h : ∀ x ∈ scope.names, x.2 = .free → ∃ c, env.cells.lookup x.1 = some c) : closureFor scope env = pure (closOf scope.names env.cells) := by
 unfold closureFor
 have := clos_go (env := env) scope.names [] h
 simp only [bind_pure]
 exact this
theorem clos_look {cells : List (Str × Addr)} {x : Str} {c : Addr} : ∀ (names : List (Str × NameKind)) (cs : List (Str × Addr)),
  (∀ y ∈ names, y.2 = .free → ∃ c, cells.lookup y.1 = some c) → (∀ c, cs.lookup x = some c → cells.lookup x = some c) →
  (names.foldl (fun cs p => if p.2 == .free then (p.1, (cells.lookup p.1).getD 0) :: cs else cs) cs).lookup x = some c → cells.lookup x = some c
 | [], cs, _, h2, h => h2 c h
 | (n, k) :: r, cs, h1, h2, h => by
  rw [List.foldl_cons] at h
  refine clos_look r _ (fun y hy => h1 y (List.mem_cons_of_mem _ hy)) (fun d hd => ?_) h
  cases hk : (k == NameKind.free) with
  | false =>
   simp only [hk, Bool.false_eq_true, if_false] at hd
   exact h2 d hd
  | true =>
   obtain ⟨e, he⟩ := h1 (n, k) List.mem_cons_self (by simpa using hk)
   simp only [hk, if_true, List.lookup_cons] at hd
   cases hx : x == n with
   | false => rw [hx] at hd; exact h2 d hd
   | true =>
    rw [hx] at hd
    have hxn : x = n := by simpa using hx
    subst hxn
    rw [he] at hd
    simp at hd
    rw [he, hd]
theorem closOf_look {names : List (Str × NameKind)} {cells : List (Str × Addr)} {x : Str} {c : Addr} (h1 : ∀ y ∈ names, y.2 = .free → ∃ c, cells.lookup y.1 = some c) (h : (closOf names cells).lookup x = some c) : cells.lookup x = some c :=
 clos_look names [] h1 (fun _ z => by simp at z) h
theorem clos_mem {cells : List (Str × Addr)} {x : Str} : ∀ (names : List (Str × NameKind)) (cs : List (Str × Addr)),
  ((x, NameKind.free) ∈ names ∨ ∃ c, cs.lookup x = some c) → ∃ c, (names.foldl (fun cs p => if p.2 == .free then (p.1, (cells.lookup p.1).getD 0) :: cs else cs) cs).lookup x = some c
 | [], cs, h => by
  rcases h with h | h
  ·cases h
  ·exact h
 | (n, k) :: r, cs, h => by
  rw [List.foldl_cons]
  refine clos_mem r _ ?_
  rcases h with h | ⟨c, h⟩
  ·rcases List.mem_cons.mp h with h | h
   ·right
    injection h with h1 h2
    subst h1 h2
    exact ⟨(cells.lookup x).getD 0, by simp [List.lookup_cons]⟩
   ·exact .inl h
  ·right
   cases hk : (k == NameKind.free) with
   | false => exact ⟨c, by simp only [hk, Bool.false_eq_true, if_false]; exact h⟩
   | true =>
    simp only [hk, if_true, List.lookup_cons]
    cases hx : x == n with
    | false => exact ⟨c, h⟩
    | true => exact ⟨_, rfl⟩
theorem lookup_mem {names : List (Str × NameKind)} {x : Str} {k : NameKind} (h : names.lookup x = some k) : (x, k) ∈ names := by
 induction names with
 | nil => simp at h
 | cons p r ih =>
  obtain ⟨n, l⟩ := p
  rw [List.lookup_cons] at h
  cases hx : x == n with
  | false => rw [hx] at h; exact List.mem_cons_of_mem _ (ih h)
  | true =>
   rw [hx] at h
   have hxn : x = n := by simpa using hx
   subst hxn
   cases h
   exact List.mem_cons_self
theorem look_relabel {env : Env} : ∀ {names : List (Str × NameKind)} {x : Str} {k : NameKind},
  (names.map fun (n, k) => if (k == NameKind.free && env.scope.kind == .function && env.kindOf n == some .cell) then (n, NameKind.cell) else (n, k)).lookup x = some k →
   names.lookup x = some k ∨ (k = .cell ∧ names.lookup x = some .free)
 | [], _, _, h => by simp at h
 | (n, l) :: r, x, k, h => by
  have ih := @look_relabel env r x k
  rw [List.map_cons] at h
  by_cases hc : (l == NameKind.free && env.scope.kind == .function && env.kindOf n == some .cell) = true
  ·simp only [hc, if_true] at h
   rw [List.lookup_cons] at h ⊢
   cases hx : x == n with
   | true =>
    rw [hx] at h
    cases h
    have hl : l = .free := by
     have := (Bool.and_eq_true_iff.mp (Bool.and_eq_true_iff.mp hc).1).1
     simpa using this
    subst hl
    exact .inr ⟨rfl, rfl⟩
   | false => rw [hx] at h; exact ih h
  ·simp only [hc] at h
   simp only [Bool.false_eq_true, if_false] at h
   rw [List.lookup_cons] at h ⊢
   cases hx : x == n with
   | true => rw [hx] at h; exact .inl h
   | false => rw [hx] at h; exact ih h
theorem cf_look {x : Str} {c : Addr} : ∀ (names : List (Str × NameKind)) (n : Nat) (acc : List (Str × Addr)), (cellsFrom n names acc).lookup x = some c →
  (n ≤ c ∧ (x, NameKind.cell) ∈ names) ∨ (acc.lookup x = some c ∧ ∀ k, (x, k) ∈ names → k ≠ .cell)
 | [], n, acc, h => .inr ⟨h, fun _ z => nomatch z⟩
 | (y, k) :: r, n, acc, h => by
  unfold cellsFrom at h
  by_cases hk : (k == NameKind.cell) = true
  ·rw [if_pos hk] at h
   have hk' : k = .cell := by simpa using hk
   subst hk'
   rcases cf_look r _ _ h with ⟨a, b⟩ | ⟨a, b⟩
   ·exact .inl ⟨by omega, List.mem_cons_of_mem _ b⟩
   ·rw [List.lookup_cons] at a
    cases hx : x == y with
    | true =>
     rw [hx] at a
     have e : n = c := by simpa using a
     have hxy : x = y := by simpa using hx
     subst hxy
     exact .inl ⟨by omega, List.mem_cons_self⟩
    | false =>
     rw [hx] at a
     refine .inr ⟨a, fun k' z => ?_⟩
     rcases List.mem_cons.mp z with z | z
     ·injection z with z1 z2
      subst z1
      simp at hx
     ·exact b k' z
  ·rw [if_neg hk] at h
   rcases cf_look r _ _ h with ⟨a, b⟩ | ⟨a, b⟩
   ·exact .inl ⟨a, List.mem_cons_of_mem _ b⟩
   ·refine .inr ⟨a, fun k' z => ?_⟩
    rcases List.mem_cons.mp z with z | z
    ·injection z with z1 z2
     subst z2
     intro e
     exact hk (by rw [e]; rfl)
    ·exact b k' z
theorem cf_inj : ∀ (names : List (Str × NameKind)) (n : Nat) (acc : List (Str × Addr)), (∀ z d, acc.lookup z = some d → d < n) → (∀ x y c, acc.lookup x = some c → acc.lookup y = some c → x = y) →
  ∀ x y c, (cellsFrom n names acc).lookup x = some c → (cellsFrom n names acc).lookup y = some c → x = y
 | [], _, _, _, h => h
 | (y, k) :: r, n, acc, hb, hi => by
  unfold cellsFrom
  by_cases hk : (k == NameKind.cell) = true
  ·rw [if_pos hk]
   refine cf_inj r _ _ (fun z d e => ?_) fun u v c e1 e2 => ?_
   ·rw [List.lookup_cons] at e
    cases hx : z == y with
    | true => rw [hx] at e; have q : n = d := (by simpa using e); rw [← q]; exact Nat.lt_succ_self n
    | false => rw [hx] at e; exact Nat.lt_succ_of_lt (hb z d e)
   ·rw [List.lookup_cons] at e1 e2
    cases hx : u == y with
    | true =>
     rw [hx] at e1
     have q1 : n = c := by simpa using e1
     cases hy : v == y with
     | true => rw [(by simpa using hx : u = y), (by simpa using hy : v = y)]
     | false => rw [hy] at e2; exact absurd (hb v c e2) (by rw [← q1]; exact Nat.lt_irrefl _)
    | false =>
     rw [hx] at e1
     cases hy : v == y with
     | true => rw [hy] at e2; have q2 : n = c := (by simpa using e2); exact absurd (hb u c e1) (by rw [← q2]; exact Nat.lt_irrefl _)
     | false => rw [hy] at e2; exact hi u v c e1 e2
  ·rw [if_neg hk]
   exact cf_inj r _ _ hb hi
theorem cf_cell : ∀ (names : List (Str × NameKind)) (h : Heap) (acc : List (Str × Addr)), (∀ z d, acc.lookup z = some d → ∃ v, h.IsCell d v) →
  ∀ x c, (cellsFrom h.objs.size names acc).lookup x = some c → ∃ v, (pushCells h names).IsCell c v
 | [], _, _, h => h
 | (y, k) :: r, h, acc, hb => by
  unfold cellsFrom pushCells
  by_cases hk : (k == NameKind.cell) = true
  ·rw [if_pos hk, if_pos hk]
   have := cf_cell r (h.push { cls := .type "cell", data := .cell none }) ((y, h.objs.size) :: acc) fun z d e => by
    rw [List.lookup_cons] at e
    cases hx : z == y with
    | true =>
     rw [hx] at e
     have q : h.objs.size = d := by simpa using e
     subst q
     exact ⟨none, _, Heap.get?_push_size _ rfl, rfl⟩
    | false =>
     rw [hx] at e
     obtain ⟨v, q⟩ := hb z d e
     exact ⟨v, q.keeps fun b o e => Heap.get?_push_of_some _ e⟩
   rwa [Heap.size_push] at this
  ·rw [if_neg hk, if_neg hk]
   exact cf_cell r h acc hb
theorem newEnvC {M : Model} {A : Around} {E : Value → Shared → Prop} {s : Shared} {scope : Scope} {globals : Addr} {cl : List (Str × Addr)} {qual : Str} {env : Env} {Q : Env → Shared → Prop}
  (h : Q { scope := scope, locals := s.heap.objs.size, globals := globals, cells := cellsFrom (s.heap.objs.size + 1) scope.names cl, qual := qual, func := none, code := env.code, frame := env.frame, builtins := env.builtins }
   { s with heap := pushCells (s.heap.push { cls := .type "dict", data := .dict #[] }) scope.names }) : wpAny M A (newFunctionEnv scope globals cl [] qual none .none (some env)) Q E s := by
 simp only [newFunctionEnv, Option.isSome_some, if_true]
 refine wpAny_bind (wpAny_alloc ?_)
 refine wpAny_bind (wpAny_layCells _ (fun name kind cells => by cases hkc : kind == NameKind.cell <;> simp [hkc]) _ _ _ _ ?_)
 rw [show ({ s with heap := s.heap.push { cls := .type "dict", data := .dict #[] } } : Shared).heap.objs.size = s.heap.objs.size + 1 from Heap.size_push ..]
 exact wpAny_bind (wpAny_pure (wpAny_pure h))
def cxC (X : Cx) (scope : Scope) (N : List Str) (pins : List (Addr × Obj)) (fp : List Addr) (s : Shared) (H : Hp) : Cx where
 prog := X.prog
 w := X.w
 K := X.K
 mg := X.mg
 base := X.base
 A := X.A
 N := N
 s₀ := s
 H₀ := H
 env := compEnvC scope (cellsFrom (s.heap.objs.size + 1) scope.names (closOf scope.names X.env.cells)) s.heap.objs.size X.env
 outer := X.stack
 stack := X.stack
 ex := fp
 fn := fun x => scope.names.lookup x == some .cell
 calm := X.calm
 pn := X.pn ++ pins
 xe := fun _ _ => False
structure CScope (X : Cx) (scope : Scope) (N : List Str) (k : Nat) (fr : List Nat) : Prop where
 kind : scope.kind = .function
 owned : (scope.names.all fun y => y.2 != .cell || scope.names.lookup y.1 == some .cell) = true
 names : (scope.names.all fun y => y.2 != .local || scope.names.lookup y.1 == some .local) = true
 free : (scope.names.all fun y => y.2 != .free || (X.env.kindOf y.1 == some .cell || X.env.kindOf y.1 == some .free)) = true
 len : N.length = k + fr.length
 at_ : ((List.range fr.length).all fun i => match N[k + i]?, fr[i]? with | some x, some j => X.N[j]? == some x && scope.names.lookup x == some .free | _, _ => false) = true
section
variable {X : Cx} {scope : Scope} {N : List Str} {k : Nat} {fr : List Nat}
theorem CScope.frees (S : CScope X scope N k fr) : ∀ y ∈ scope.names, y.2 = .free → X.env.kindOf y.1 = some .cell ∨ X.env.kindOf y.1 = some .free := fun y hy e => by
 have h := List.all_eq_true.mp S.free y hy
 simp only [e] at h
 simpa using h
theorem CScope.cells (S : CScope X scope N k fr) (ok : X.Ok) : ∀ y ∈ scope.names, y.2 = .free → ∃ c, X.env.cells.lookup y.1 = some c := fun y hy e => ok.has y.1 (S.frees y hy e)
theorem CScope.locals (S : CScope X scope N k fr) : ∀ y ∈ scope.names, y.2 = .local → scope.names.lookup y.1 = some .local := fun y hy e => by
 have h := List.all_eq_true.mp S.names y hy
 simp only [e] at h
 simpa using h
theorem CScope.own (S : CScope X scope N k fr) {x : Str} (h : (x, NameKind.cell) ∈ scope.names) : scope.names.lookup x = some .cell := by
 have h := List.all_eq_true.mp S.owned _ h
 simpa using h
theorem CScope.look (S : CScope X scope N k fr) (ok : X.Ok) {n : Nat} {x : Str} {c : Addr} (h : (cellsFrom n scope.names (closOf scope.names X.env.cells)).lookup x = some c) :
  (n ≤ c ∧ scope.names.lookup x = some .cell) ∨ (X.env.cells.lookup x = some c ∧ scope.names.lookup x ≠ some .cell) := by
 rcases cf_look _ _ _ h with ⟨a, b⟩ | ⟨a, b⟩
 ·exact .inl ⟨a, S.own b⟩
 ·exact .inr ⟨closOf_look (S.cells ok) a, fun z => b _ (lookup_mem z) rfl⟩
def startC (k : Nat) (fr : List Nat) (σ : St) : St := List.replicate k none ++ fr.map fun j => (σ[j]?).getD none
variable {pins : List (Addr × Obj)} {σ : St} {H : Hp} {s : Shared} {fp : List Addr}
theorem okC (S : CScope X scope N k fr) (I : Inv X pins σ H s) (hf : ∀ b ∈ fp, FpOk X pins H b) (hlt : ∀ b ∈ fp, b < s.heap.objs.size) : (cxC X scope N pins fp s H).Ok where
 mod := I.ok.mod
 kind := S.kind
 glob := I.ok.glob
 blt := I.ok.blt
 above := Nat.le_refl _
 inj := cf_inj _ _ _ (fun z d e => by
   obtain ⟨v, q⟩ := I.cell z d (closOf_look (S.cells I.ok) e)
   exact Nat.lt_succ_of_lt q.lt) fun x y c hx hy => I.ok.inj x y c (closOf_look (S.cells I.ok) hx) (closOf_look (S.cells I.ok) hy)
 has := fun x hx => by
  have hx' : (relabel scope X.env).names.lookup x = some .cell ∨ (relabel scope X.env).names.lookup x = some .free := hx
  have key : scope.names.lookup x = some .cell ∨ scope.names.lookup x = some .free := by
   rcases hx' with h | h
   ·rcases look_relabel h with h | h
    ·exact .inl h
    ·exact .inr h.2
   ·rcases look_relabel h with h | h
    ·exact .inr h
    ·exact .inr h.2
  refine Option.isSome_iff_exists.mp (PySem.W.cellsFrom_some scope.names _ _ (key.imp id fun e => ?_))
  obtain ⟨c, hc⟩ := clos_mem (cells := X.env.cells) scope.names [] (.inl (lookup_mem e))
  exact Option.isSome_iff_exists.mpr ⟨c, hc⟩
 cab := fun x c h hc => by
  have h' : scope.names.lookup x = some .cell := by
   have h2 : (scope.names.lookup x == some .cell) = true := h
   simpa using h2
  rcases S.look I.ok hc with ⟨a, _⟩ | ⟨_, b⟩
  ·exact Nat.le_trans (Nat.le_succ _) a
  ·exact absurd h' b
 hd := I.ok.hd
 frames := I.ok.frames
 stk := .inl rfl
 exf := fun b hb => ⟨Nat.ne_of_lt (hlt b hb), fun x c hc => by
  rcases S.look I.ok hc with ⟨a, _⟩ | ⟨a, _⟩
  ·intro z
   exact Nat.lt_irrefl _ (Nat.lt_of_lt_of_le (hlt b hb) (z ▸ Nat.le_trans (Nat.le_succ _) a))
  ·exact (hf b hb).2.2.2.2.1 x c a⟩
 bs := I.bs
 bsz := Nat.le_trans I.ok.bsz I.sz
 noex := fun b o e hb => by
  rcases (hf b hb).2.2.2.1 with z | z
  ·exact I.ok.noex b o e z
  ·exact absurd (Nat.lt_of_lt_of_le (Heap.lt_size e) (Nat.le_trans I.ok.bsz z)) (Nat.lt_irrefl _)
 exfs := fun b hb hs => by
  rcases List.mem_cons.mp (I.stkSub b hs) with e | e
  ·exact (hf b hb).2.1 e
  ·exact (hf b hb).2.2.1 e
 funs := I.stack
 frf := I.stkFree
theorem invC {h1 : Heap} {t1 : Nat} {m : Str → Option Value} (S : CScope X scope N k fr) (I : Inv X pins σ H s) (hf : ∀ b ∈ fp, FpOk X pins H b) (hlt : ∀ b ∈ fp, b < s.heap.objs.size)
  (hns : h1.Ns s.heap.objs.size m) (hkeep : ∀ b o, s.heap.get? b = some o → h1.get? b = some o)
  (hcl : ∀ x c, (cellsFrom (s.heap.objs.size + 1) scope.names (closOf scope.names X.env.cells)).lookup x = some c → ∃ v, h1.IsCell c v) (ht1 : 0 < t1 := by first | assumption | exact Inv.tk (by assumption)) : Inv (cxC X scope N pins fp s H) [] (startC k fr σ) H { s with heap := h1, toks := t1 } where
 tk := ht1
 ok := okC S I hf hlt
 os := rfl
 bare := I.bare
 base := Un.kept hkeep
 loc := by
  refine ⟨m, hns, fun i x v e1 e2 e3 => ?_⟩
  have hk : k ≤ i := by
   by_cases z : i < k
   ·unfold startC at e2
    rw [List.getElem?_append_left (by simpa using z)] at e2
    simp [z] at e2
   ·omega
  obtain ⟨j, rfl⟩ : ∃ j, i = k + j := ⟨i - k, by omega⟩
  unfold startC at e2
  rw [List.getElem?_append_right (by simp)] at e2
  simp only [List.length_replicate, Nat.add_sub_cancel_left, List.getElem?_map] at e2
  have hj : j < fr.length := by
   cases q : fr[j]? with
   | none => rw [q] at e2; cases e2
   | some _ => exact (List.getElem?_eq_some_iff.mp q).1
  have ha := List.all_eq_true.mp S.at_ j (by simpa using hj)
  have e1' : N[k + j]? = some x := e1
  cases q : fr[j]? with
  | none => rw [q] at e2; cases e2
  | some p =>
   rw [q] at e2
   simp only [e1', q] at ha
   obtain ⟨a1, a2⟩ := Bool.and_eq_true_iff.mp ha
   have a1' : X.N[p]? = some x := by simpa using a1
   have a2' : scope.names.lookup x = some .free := by simpa using a2
   have e2' : (σ[p]?).getD none = some v := by simpa using e2
   have e2'' : σ[p]? = some (some v) := by
    cases z : σ[p]? with
    | none => rw [z] at e2'; cases e2'
    | some y => rw [z] at e2'; simpa using e2'
   have hfr := S.frees (x, .free) (lookup_mem a2') rfl
   obtain ⟨m0, hn0, hl0⟩ := I.loc
   have hvis : Vis X.env.scope x := by
    rcases hfr with z | z
    ·exact .inr (.inl z)
    ·exact .inr (.inr z)
   obtain ⟨u, r, l⟩ := hl0 p x v a1' e2'' hvis
   refine ⟨u, r, .inr ⟨?_, ?_⟩⟩
   ·show (relabel scope X.env).names.lookup x = some .cell ∨ (relabel scope X.env).names.lookup x = some .free
    rcases e3 with z | z | z
    ·rcases look_relabel z with z | z
     ·rw [a2'] at z; cases z
     ·cases z.1
    ·exact .inl z
    ·exact .inr z
   ·have hc : ∃ c, X.env.cells.lookup x = some c ∧ s.heap.IsCell c (some u) := by
     rcases l with ⟨z, _⟩ | ⟨_, c, hc, hv⟩
     ·rcases hfr with y | y
      ·have y' : X.env.kindOf x = some .cell := y
       rw [y'] at z; cases z
      ·have y' : X.env.kindOf x = some .free := y
       rw [y'] at z; cases z
     ·exact ⟨c, hc, hv⟩
    obtain ⟨c, hc, o, ho, hd⟩ := hc
    obtain ⟨c1, hc1⟩ := clos_mem (cells := X.env.cells) scope.names [] (.inl (lookup_mem a2'))
    obtain ⟨c', hc'⟩ := Option.isSome_iff_exists.mp (PySem.W.cellsFrom_some scope.names (s.heap.objs.size + 1) (closOf scope.names X.env.cells) (.inr (Option.isSome_iff_exists.mpr ⟨c1, hc1⟩)))
    have hcc : X.env.cells.lookup x = some c' := by
     rcases S.look I.ok hc' with ⟨_, b⟩ | ⟨b, _⟩
     ·rw [a2'] at b; cases b
     ·exact b
    rw [hc] at hcc
    cases hcc
    exact ⟨c, hc', o, hkeep c o ho, hd⟩
 cell := hcl
 free := I.hok.fresh (Nat.le_refl _)
 freeC := fun x c hc => by
  rcases S.look I.ok hc with ⟨a, _⟩ | ⟨a, _⟩
  ·exact I.hok.fresh (Nat.le_trans (Nat.le_succ _) a)
  ·exact I.freeC x c a
 pin := fun p hp => by
  have hp' : p ∈ X.pn ++ pins := by
   have hp2 : p ∈ (X.pn ++ pins) ++ [] := hp
   simpa using hp2
  obtain ⟨e, n, ne, nf, d⟩ := I.pin p hp'
  refine ⟨hkeep _ _ e, n, Nat.ne_of_lt (Heap.lt_size e), fun z => ?_, d⟩
  rcases List.mem_cons.mp (I.stkSub p.1 z) with q | q
  ·exact ne q
  ·exact nf q
 hok := I.hok.kept hkeep
 len := by
  have := S.len
  show (startC k fr σ).length = N.length
  unfold startC
  simp [this]
theorem outC {σ' : St} {H' : Hp} {s' : Shared} {h' : Heap} {pins' : List (Addr × Obj)} (I : Inv X pins σ H s) (hf : ∀ b ∈ fp, FpOk X pins H b) (I' : Inv (cxC X scope N pins fp s H) pins' σ' H' s') (sb : Heap.SameBut s.heap.objs.size s'.heap h') :
  Inv X pins σ H' { s' with heap := h' } := by
 have fr' : H' s.heap.objs.size = none := I'.free
 refine I.call' (s' := { s' with heap := h' }) (ch := fp) I'.os ⟨fun b o e n hb hx => ?_, fun b o e n hb hx => ?_, I'.base.free, fun b o e hx => ?_, I'.base.tups, I'.base.frzs, I'.base.tbls⟩ ?_ I'.bare (fun b hb => ⟨(hf b hb).2.2.2.1, (hf b hb).2.1, (hf b hb).2.2.2.2.1, (hf b hb).2.2.2.2.2⟩) I'.tk
 ·exact (sb.2 b (Nat.ne_of_lt (Heap.lt_size e))).trans (I'.base.keep b o e n hb hx)
 ·obtain ⟨sl, q⟩ := I'.base.slot b o e n hb hx
  exact ⟨sl, (sb.2 b (Nat.ne_of_lt (Heap.lt_size e))).trans q⟩
 ·obtain ⟨o', q⟩ := I'.base.there b o e hx
  exact ⟨o', (sb.2 b (Nat.ne_of_lt (Heap.lt_size e))).trans q⟩
 ·intro b u e
  refine (I'.hok b u e).stay (fun c v hc q => (sb.2 c ?_).trans q) (fun _ q => q) fun _ _ q => q
  rintro rfl
  rcases hc with rfl | hc
  ·rw [fr'] at e; cases e
  ·rw [fr'] at hc; cases hc
end
def PTs (X : Cx) (ifs : List Expr) (t : TT) : Prop :=
 ∀ (pins : List (Addr × Obj)) (s : Shared) (σ : St) (H : Hp) (Q : Bool → Hp → Prop), Inv X pins σ H s → t σ H Q →
  wpAny (model X.prog X.w) X.A (forIn ifs true fun c r => if r = true then do let ok ← isTrue c X.env (eval c X.env); pure (ForInStep.yield ok) else pure (ForInStep.yield r)) (TP X pins σ Q) X.xe s
def tYes : TT := fun _ H Q => Q true H
theorem pts_nil {X : Cx} : PTs X [] tYes := fun _ _ _ H _ I h => wpAny_tests_nil (fun ht => ⟨H, I, h⟩)
theorem pts_one {X : Cx} {c : Expr} {t : TT} (h : PT X c t) : PTs X [c] t := fun pins s σ H Q I hw => wpAny_tests_one (h pins s σ H Q I hw)
theorem compLoop_any {prog : Program} {w : World} {A : Around} {R : Result → Shared → Prop} {s : Shared} {elt target iter : Expr} {ifs : List Expr} {scope : Scope} {pos : Pos} {it acc : Value} {env : Env} (I : Nat → Shared → Prop)
  (turn : ∀ n s, I n s → wpAny (model prog w) A (pyNext it) (fun r s₁ => match r with
   | none => R (.ok .next) s₁
   | some v => wpAny (model prog w) A (letOwnedTupleGo target it v) (fun _ s₁' => wpAny (model prog w) A (assign target env v) (fun _ s₂ =>
     wpAny (model prog w) A (forIn ifs true fun c r => if r = true then do let ok ← isTrue c env (eval c env); pure (ForInStep.yield ok) else pure (ForInStep.yield r)) (fun ok s₃ =>
      if ok = true then wpAny (model prog w) A (eval elt env) (fun x s₄ =>
       wpAny (model prog w) A (call (.builtin "list.append") [acc, x]) (fun _ s₅ => ∃ m, m < n ∧ I m s₅) (fun _ _ => False) s₄) (fun _ _ => False) s₃
      else ∃ m, m < n ∧ I m s₃) (fun _ _ => False) s₂) (fun _ _ => False) s₁') (fun _ _ => False) s₁) (fun _ _ => False) s)
  (n : Nat) (h : I n s) :
  codeAny (model prog w) A (.compLoop (.ListComp elt [⟨target, iter, ifs, 0⟩] scope pos) 0 it acc env) R s := by
 refine codeAny_loop rfl I (fun n s hI => ?_) n h
 show wpAny _ A ((compTurn (.ListComp elt [⟨target, iter, ifs, 0⟩] scope pos) 0 it acc env).onRaise (fun x => do noteFrame x env; theTreesLotGoes x)) _ _ s
 refine wpAny_noted ?_
 rw [compTurn_list]
 refine wpAny_bind (wpAny_standAt (wpAny_bind (wpAny_mono (turn n s hI) (fun r s₁ h₁ => ?_) fun _ _ h' => h'.elim)))
 cases r with
 | none => exact wpAny_pure h₁
 | some v =>
  refine wpAny_bind (wpAny_mono h₁ (fun _ s₁' h₁' => ?_) fun _ _ h' => h'.elim)
  refine wpAny_bind (wpAny_mono h₁' (fun _ s₂ h₂ => wpAny_bind (wpAny_mono h₂ (fun ok s₃ h₃ => ?_) fun _ _ h' => h'.elim)) fun _ _ h' => h'.elim)
  cases ok with
  | false =>
   simp only [Bool.false_eq_true, if_false] at h₃ ⊢
   exact wpAny_bind (wpAny_pure (wpAny_pure ⟨rfl, h₃⟩))
  | true =>
   simp only [if_true] at h₃ ⊢
   refine wpAny_bind (wpAny_bind (wpAny_mono h₃ (fun x s₄ h₄ => wpAny_bind (wpAny_mono h₄ (fun _ s₅ h₅ => wpAny_pure (wpAny_pure ⟨rfl, h₅⟩)) fun _ _ h' => h'.elim)) fun _ _ h' => h'.elim))
def rdComp (k : Nat) (fr : List Nat) (g : TG) (tc : TT) (te : TE) (σ : St) (J : It) (H1 : Hp) (Q : VK) : Prop :=
 ∀ D, H1 D = none → ∃ W : Nat → Nat → List V → St → Hp → Prop, (∃ m, W 0 m [] (startC k fr σ) (upd H1 D (.lst []))) ∧
  ∀ i m ys σ' H', W i m ys σ' H' → H' D = some (.lst ys) ∧
   ((J.stop i H' ∧ Q (.ref D) H') ∨
    (J.go i H' ∧ ∃ m', m' < m ∧ ∀ x H2, J.yld i H' x H2 → g x σ' H2 fun σ2 H3 => tc σ2 H3 fun b H4 =>
     if b = true then te σ2 H4 fun v H5 => H5 D = some (.lst ys) ∧ ys.length < sizeLine ∧ W (i + 1) m' (ys ++ [v]) σ2 (upd H5 D (.lst (ys ++ [v])))
     else W (i + 1) m' ys σ2 H4))
def tComp (k : Nat) (fr : List Nat) (wi : TI) (g : TG) (tc : TT) (te : TE) : TE := fun σ H Q => wi σ H fun J H1 => rdComp k fr g tc te σ J H1 Q
section
variable {X : Cx} {scope : Scope} {N : List Str} {k : Nat} {fr : List Nat} {tg iter elt : Expr} {ifs : List Expr} {wi : TI} {g : TG} {tc : TT} {te : TE} {pos : Pos}
theorem blockC {pins : List (Addr × Obj)} {σ : St} {H : Hp} {s : Shared} {it : Addr} {fp : List Addr} {tn : Nat → Heap → Prop} {J : It} {Q : VK} {RR : Value → Addr → Result → Shared → Prop} {E : Value → Shared → Prop}
  (hc : X.calm = true) (S : CScope X scope N k fr) (hg : ∀ pins fp s H, PG (cxC X scope N pins fp s H) tg g) (ht : ∀ pins fp s H, PTs (cxC X scope N pins fp s H) ifs tc) (he : ∀ pins fp s H, PE (cxC X scope N pins fp s H) elt te)
  (I : Inv X pins σ H s) (T : Turn X.prog X.w X.K tg J fp it tn) (st : tn 0 s.heap) (hf : ∀ b ∈ fp, FpOk X pins H b) (h : rdComp k fr g tc te σ J H Q)
  (hR : ∀ D C s' (H' : Hp), Q (.ref D) H' → FpOk X pins H' C → (∃ m, s'.heap.Ns C m) → (∀ h', Heap.SameBut C s'.heap h' → Inv X pins σ H' { s' with heap := h' }) → RR (.ref D) C (.ok .next) s') :
  wpAny (model X.prog X.w) X.A (newList []) (fun acc s₃ => wpAny (model X.prog X.w) X.A (newFunctionEnv scope X.env.globals (closOf scope.names X.env.cells) [] X.env.qual none .none (some X.env)) (fun cenv s₄ =>
   codeAny (model X.prog X.w) X.A (.compStart (.ListComp elt [⟨tg, iter, ifs, 0⟩] scope pos) 0 (.ref it) acc { cenv with scope := relabel scope X.env }) (RR acc cenv.locals) s₄) E s₃) E s := by
 refine wpAny_newObj_type (newEnvC ?_)
 dsimp only
 have I3 : Inv X pins σ (upd H s.heap.objs.size (.lst [])) { s with heap := s.heap.push { cls := .type "list", dict := none, data := .seq ([] : List Value).toArray } } :=
  I.laid (t' := s.toks) (fun b u e => Heap.get?_push_of_some _ e) (Nat.le_refl _) ⟨by simp, [], _, .nil, Heap.get?_push_size _ rfl⟩
 generalize hS3 : ({ s with heap := s.heap.push { cls := .type "list", dict := none, data := .seq ([] : List Value).toArray } } : Shared) = s3 at I3
 have e3 : s.heap.push { cls := .type "list", dict := none, data := .seq ([] : List Value).toArray } = s3.heap := by rw [← hS3]
 rw [e3]
 generalize hD : s.heap.objs.size = D at I3 ⊢
 have hDn : H D = none := I.hok.fresh (by omega)
 obtain ⟨W, ⟨m0, w0⟩, turn⟩ := h D hDn
 have hfD : ∀ b ∈ fp, b ≠ D := fun b hb z => by
  obtain ⟨o, e, _⟩ := T.obj 0 _ st b hb
  exact absurd (Heap.lt_size e) (by rw [z, ← hD]; exact Nat.lt_irrefl _)
 have hf3 : ∀ b ∈ fp, FpOk X pins (upd H D (.lst [])) b := fun b hb => ⟨by rw [upd_ne (hfD b hb)]; exact (hf b hb).1, (hf b hb).2⟩
 have up3 : ∀ b o, s.heap.get? b = some o → s3.heap.get? b = some o := fun b o e => by rw [← e3]; exact Heap.get?_push_of_some _ e
 have hlt : ∀ b ∈ fp, b < s3.heap.objs.size := fun b hb => by
  obtain ⟨o, e, _⟩ := T.obj 0 _ st b hb
  exact Heap.lt_size (up3 b o e)
 have keep0 : ∀ b o, s3.heap.get? b = some o → (pushCells (s3.heap.push { cls := .type "dict", data := .dict #[] }) scope.names).get? b = some o := fun b o e => pushCells_keeps _ _ b o (Heap.get?_push_of_some _ e)
 have ns0 := (Heap.Ns.new s3.heap (.type "dict")).keeps (pushCells_keeps scope.names _)
 have cl0 : ∀ x c, (cellsFrom (s3.heap.objs.size + 1) scope.names (closOf scope.names X.env.cells)).lookup x = some c → ∃ v, (pushCells (s3.heap.push { cls := .type "dict", data := .dict #[] }) scope.names).IsCell c v := by
  have q := cf_cell scope.names (s3.heap.push { cls := .type "dict", data := .dict #[] }) (closOf scope.names X.env.cells) fun z d e => by
   obtain ⟨v, q⟩ := I3.cell z d (closOf_look (S.cells I.ok) e)
   exact ⟨v, q.keeps fun b o e => Heap.get?_push_of_some _ e⟩
  rwa [Heap.size_push] at q
 generalize hh₁ : pushCells (s3.heap.push { cls := .type "dict", data := .dict #[] }) scope.names = h₁ at keep0 ns0 cl0 ⊢
 have keep : ∀ b o, s3.heap.get? b = some o → h₁.get? b = some o := keep0
 have hns₁ := ns0
 have st1 : tn 0 h₁ := T.keep 0 _ _ st fun b hb o e => keep b o (up3 b o e)
 have eos : ({ s with heap := h₁, toks := s.toks } : Shared) = { s3 with heap := h₁, toks := s.toks } := by rw [← hS3]
 have IC : Inv (cxC X scope N pins fp s3 (upd H D (.lst []))) [] (startC k fr σ) (upd H D (.lst [])) { s3 with heap := h₁, toks := s.toks } := invC S I3 hf3 hlt hns₁ keep cl0
 rw [← eos] at IC
 have statC : ∀ {H' : Hp}, (∀ b ∈ fp, H' b = none) → ∀ b ∈ fp, FpOk (cxC X scope N pins fp s3 (upd H D (.lst []))) [] H' b := fun hn b hb =>
  ⟨hn b hb, Nat.ne_of_lt (hlt b hb), fun z => by
   rcases List.mem_cons.mp (I3.stkSub b z) with q | q
   ·exact (hf b hb).2.1 q
   ·exact (hf b hb).2.2.1 q, .inl hb, fun x c hcx => by
   rcases S.look I.ok hcx with ⟨a, _⟩ | ⟨a, _⟩
   ·intro z
    exact Nat.lt_irrefl _ (Nat.lt_of_lt_of_le (hlt b hb) (z ▸ Nat.le_trans (Nat.le_succ _) a))
   ·exact (hf b hb).2.2.2.2.1 x c a, fun p hp => by
   have hp' : p ∈ X.pn ++ pins := by
    have hp2 : p ∈ (X.pn ++ pins) ++ [] := hp
    simpa using hp2
   exact (hf b hb).2.2.2.2.2 p hp'⟩
 have loop : ∀ s4 : Shared, Inv (cxC X scope N pins fp s3 (upd H D (.lst []))) [] (startC k fr σ) (upd H D (.lst [])) s4 → tn 0 s4.heap →
   codeAny (model X.prog X.w) X.A (.compLoop (.ListComp elt [⟨tg, iter, ifs, 0⟩] scope pos) 0 (.ref it) (.ref D) (cxC X scope N pins fp s3 (upd H D (.lst []))).env) (RR (.ref D) s3.heap.objs.size) s4 := by
  intro s4 I4 st4
  refine compLoop_any (fun n s' => ∃ i ys σ' H', Inv (cxC X scope N pins fp s3 (upd H D (.lst []))) [] σ' H' s' ∧ tn i s'.heap ∧ (∀ b ∈ fp, H' b = none) ∧ W i n ys σ' H') ?_ m0 ⟨0, [], _, _, I4, st4, fun b hb => (hf3 b hb).1, w0⟩
  rintro n s5 ⟨i, ys, σ5, H5, I5, st5, fr5, w5⟩
  obtain ⟨hD5, hcase⟩ := turn i n ys σ5 H5 w5
  rcases hcase with ⟨stop, q⟩ | ⟨go, m', hm, step⟩
  ·refine thn (T.done (cxC X scope N pins fp s3 (upd H D (.lst []))) rfl rfl rfl hc i [] s5 σ5 H5 _ I5 (statC fr5) st5 stop) fun r s6 ⟨hr, I6⟩ => ?_
   subst hr
   obtain ⟨m6, hn6, _⟩ := I6.loc
   exact hR D _ s6 H5 q (I3.fpOk (Nat.le_refl _) I6.free) ⟨m6, hn6⟩ fun h' sb => outC I3 hf3 I6 sb
  ·refine thnT (T.item (cxC X scope N pins fp s3 (upd H D (.lst []))) rfl rfl rfl hc i [] s5 σ5 H5 _ I5 (statC fr5) st5 go) fun r s6 ht_s6 ⟨u, hr, h6⟩ => ?_
   subst hr
   refine thn h6 fun _ s7 ⟨x, H7, I7, r7, y7, st7, fr7⟩ => ?_
   have I7' := I7.pinned (statC fr7) (T.obj _ _ st7)
   refine thn (hg pins fp s3 _ _ s7 σ5 H7 x u _ I7' r7 (step x H7 y7)) fun _ s8 ⟨σ8, H8, I8, q8⟩ => ?_
   refine thn (ht pins fp s3 _ _ s8 σ8 H8 _ I8 q8) fun b s9 ⟨H9, I9, q9⟩ => ?_
   have again : ∀ {H' : Hp} {s' : Shared}, Inv (cxC X scope N pins fp s3 (upd H D (.lst []))) ([] ++ pinsAt fp s7.heap) σ8 H' s' → tn (i + 1) s'.heap ∧ (∀ b ∈ fp, H' b = none) := fun {H' s'} I' => by
    refine ⟨T.keep _ _ _ st7 fun b hb o e => (I'.pin (b, o) (List.mem_append_right _ (List.mem_append_right _ (mem_pinsAt hb e)))).1, fun b hb => ?_⟩
    obtain ⟨o, e, d⟩ := T.obj _ _ st7 b hb
    exact (I'.pin (b, o) (List.mem_append_right _ (List.mem_append_right _ (mem_pinsAt hb e)))).2.1
   cases b with
   | false =>
    simp only [Bool.false_eq_true, if_false] at q9 ⊢
    obtain ⟨a1, a2⟩ := again I9
    exact ⟨m', hm, i + 1, ys, σ8, H9, I9.unpinned, a1, a2, q9⟩
   | true =>
    simp only [if_true] at q9 ⊢
    refine thn (he pins fp s3 _ _ s9 σ8 H9 _ I9 q9) fun y s10 ⟨v, H10, I10, r10, hD10, hl10, q10⟩ => ?_
    refine thn (mt_append (X := cxC X scope N pins fp s3 (upd H D (.lst []))) _ s10 σ8 H10 (.ref D) [v] (.ref D) [y] (fun z H' => z = .non ∧ H' = upd H10 D (.lst (ys ++ [v]))) I10 rfl (.cons r10 .nil) ⟨D, ys, v, rfl, rfl, hD10, hl10, rfl, rfl⟩) fun z s11 ⟨v11, H11, I11, _, _, e11⟩ => ?_
    subst e11
    obtain ⟨a1, a2⟩ := again I11
    exact ⟨m', hm, i + 1, ys ++ [v], σ8, _, I11.unpinned, a1, a2, q10⟩
 exact codeAny_compStart_list (loop _ IC st1) (T.self X.A 0 _ _ _ st1 (loop _ IC st1))
theorem pe_comp (hc : X.calm = true) (S : CScope X scope N k fr) (hi : PI X tg iter wi) (hg : ∀ pins fp s H, PG (cxC X scope N pins fp s H) tg g) (ht : ∀ pins fp s H, PTs (cxC X scope N pins fp s H) ifs tc)
  (he : ∀ pins fp s H, PE (cxC X scope N pins fp s H) elt te) (hs : ∀ x, foldedSetIterable iter X.env x = pure x := by intro _; rfl) : PE X (.ListComp elt [⟨tg, iter, ifs, 0⟩] scope pos) (tComp k fr wi g tc te) := by
 intro pins s σ H Q I h
 rw [eval_ListComp]
 refine wpAny_comprehension_free (use := none) rfl hs (closureFor_of (S.cells I.ok)) S.kind S.locals (thnT (hi pins s σ H _ I h) fun v s1 t1 h1 => thn h1 fun itv s2 h2 => ?_)
 obtain ⟨it, fp, tn, J, H2, e, I2, T, st2, f2, q⟩ := h2
 subst e
 refine blockC (RR := fun acc C => compPost (model X.prog X.w) X.A X.xe none (EP X pins σ Q) acc C) hc S hg ht he I2 T st2 f2 q ?_
 intro D C s' H' q' _ hn inv
 obtain ⟨m, hn⟩ := hn
 exact ⟨m, hn, fun h' sb => (fun ht => ⟨.ref D, H', inv h' sb, rfl, q'⟩)⟩
theorem ps_setComp {i : Nat} {x : Str} {pos' spos : Pos} (hc : X.calm = true) (S : CScope X scope N k fr) (hi : PI X tg iter wi) (hg : ∀ pins fp s H, PG (cxC X scope N pins fp s H) tg g) (ht : ∀ pins fp s H, PTs (cxC X scope N pins fp s H) ifs tc)
  (he : ∀ pins fp s H, PE (cxC X scope N pins fp s H) elt te) (hN : X.N.Nodup) (hix : X.N[i]? = some x) (hx : X.env.scope.names.lookup x = some .local)
  (hsw : swapsWith (.ListComp elt [⟨tg, iter, ifs, 0⟩] scope pos) (some (.Name x pos')) spos.line X.env = pure true := by rfl)
  (hs : ∀ x, foldedSetIterable iter X.env x = pure x := by intro _; rfl) : PS X (.Assign [.Name x pos'] (.ListComp elt [⟨tg, iter, ifs, 0⟩] scope pos) spos) (tAsg (tComp k fr wi g tc te) (gName i)) := by
 intro pins s σ H D I h
 rw [exec_Assign_Name_used _ _ _ _ hsw]
 refine wpAny_bind (wpAny_standAt (wpAny_bind ?_))
 show wpAny _ X.A (do let _ ← comprehension (.ListComp elt [⟨tg, iter, ifs, 0⟩] scope pos) scope X.env _ (newList []) false (eval iter X.env) (some (assign (.Name x pos') X.env))) _ _ s
 refine wpAny_bind (wpAny_mono (wpAny_comprehension_free (use := some (assign (.Name x pos') X.env)) (Q := fun _ s' => SP X pins D .next s') rfl hs (closureFor_of (S.cells I.ok)) S.kind S.locals
  (thnT (hi pins s σ H _ I h) fun v s1 t1 h1 => thn h1 fun itv s2 h2 => ?_)) (fun _ s' hq => wpAny_pure (wpAny_pure hq)) fun _ _ e => e)
 obtain ⟨it, fp, tn, J, H2, e, I2, T, st2, f2, q⟩ := h2
 subst e
 refine blockC (RR := fun acc C => compPost (model X.prog X.w) X.A X.xe (some (assign (.Name x pos') X.env)) (fun _ s' => SP X pins D .next s') acc C) hc S hg ht he I2 T st2 f2 q ?_
 intro L C s' H' q' fC hn inv
 obtain ⟨m, hn⟩ := hn
 show wpAny _ X.A (assign (.Name x pos') X.env (.ref L)) _ _ _
 have I3 : Inv X pins σ H' s' := inv s'.heap (.refl ..)
 obtain ⟨f0, f1, f2', f3, f4, f5⟩ := fC
 refine wpAny_assign_Name (store_ok2 I3 hN hix (.inl hx) (v := .ref L) rfl (fun s'' I4 hb => ?_) (.inr hx))
 obtain ⟨a, sb, ha⟩ := hb
 have hCa : C ≠ a := by
  rcases ha with e | e
  ·rw [e]; exact f1
  ·exact fun z => f4 x a e z.symm
 refine ⟨m, hn.sameBut sb hCa, fun h'' sb'' => (fun ht => ⟨_, H', I4.turned (t' := s''.toks) (fun b o hb e => (sb''.2 b hb).trans e) f0 f1 f3 f4 f5, q'⟩)⟩
end
abbrev S (l : List Nat) : V := .str ⟨l.toArray⟩
theorem Str_ext {a b : Str} (h : a.cps.toList = b.cps.toList) : a = b := by
 cases a; cases b
 simp at h
 rw [h]
theorem S_inj {a b : List Nat} (h : S a = S b) : a = b := by
 injection h with h
 injection h with h
 simpa using congrArg Array.toList h
section
variable {X : Cx}
theorem pe_S {l : List Nat} {x : Str} {j pos} (h : x = ⟨l.toArray⟩ := by decide +kernel) : PE X (.Constant (.str x) j pos) (tC (S l)) := by
 subst h
 exact pe_str
theorem S_add (a b : List Nat) : (⟨a.toArray⟩ : Str) ++ (⟨b.toArray⟩ : Str) = ⟨(a ++ b).toArray⟩ := Str_ext (by show (a.toArray ++ b.toArray).toList = _; simp)
def rAddS : R2 := fun x y H Q => ∃ a b, x = S a ∧ y = S b ∧ a.length + b.length ≤ sizeLine ∧ Q (S (a ++ b)) H
theorem op_addS : OpR X (binaryOp .Add) rAddS := by
 intro pins s σ H x y v u Q I rx ry ⟨a, b, ex, ey, hl, q⟩
 subst ex ey
 refine op_add_str pins s σ H _ _ v u Q I rx ry ⟨_, _, rfl, rfl, ?_, ?_⟩
 ·show a.toArray.size + b.toArray.size ≤ sizeLine
  simpa using hl
 ·rw [S_add]; exact q
def rIxC : R2 := fun x y H Q => ∃ l i c, x = S l ∧ y = .int i ∧ l.length ≤ sizeLine ∧ atI l i = some c ∧ Q (S [c]) H
theorem ix_S : IxR X rIxC := by
 intro value slice pins s σ H x y v u Q I rx ry ⟨l, i, c, ex, ey, hl, hc, q⟩ hs
 subst ex ey
 exact ix_str value slice pins s σ H _ _ v u Q I rx ry ⟨_, i, c, rfl, rfl, by simpa [Str.length] using hl, by simpa using hc, q⟩ hs
theorem call_lenS : CallR X (.builtin "len") (fun xs H Q => ∃ l, xs = [S l] ∧ l.length ≤ sizeLine ∧ Q (.int l.length) H) := by
 intro pins s σ H xs us Q I r ⟨l, e, hl, q⟩
 subst e
 exact call_len_str pins s σ H _ us Q I r ⟨_, rfl, by simpa [Str.length] using hl, by simpa [Str.length] using q⟩
def rInS (neg : Bool) : R2 := fun x y H Q => ∃ c l, x = S [c] ∧ y = S l ∧ Q (.bl (if neg then !decide (c ∈ l) else decide (c ∈ l))) H
theorem op_inS : OpR X (compareOp .In) (rInS false) := by
 intro pins s σ H x y v u Q I rx ry ⟨c, l, ex, ey, q⟩
 subst ex ey
 refine op_in_str pins s σ H _ _ v u Q I rx ry ⟨_, _, rfl, rfl, ?_⟩
 rw [StrLaws.found_one]
 simpa using q
theorem op_notInS : OpR X (compareOp .NotIn) (rInS true) := by
 intro pins s σ H x y v u Q I rx ry ⟨c, l, ex, ey, q⟩
 subst ex ey
 refine op_notin_str pins s σ H _ _ v u Q I rx ry ⟨_, _, rfl, rfl, ?_⟩
 rw [StrLaws.found_one]
 simpa using q
def cutN (l : List Nat) (lo hi : Option Int) : List Nat := (l.drop (HT.sIx l.length 0 lo)).take (HT.sIx l.length l.length hi - HT.sIx l.length 0 lo)
theorem picksN (l : List Nat) (a b : Nat) : ((List.range (b - a)).map fun (k : Nat) => ((a : Int) + 1 * (k : Int)).toNat).filterMap (l.toArray[·]?) = (l.drop a).take (b - a) := by
 have key : ∀ (n a : Nat), ((List.range n).map fun (k : Nat) => ((a : Int) + 1 * (k : Int)).toNat).filterMap (l.toArray[·]?) = (l.drop a).take n := by
  intro n
  induction n with
  | zero => intro a; simp
  | succ n ih =>
   intro a
   rw [List.range_succ, List.map_append, List.filterMap_append, ih a, List.take_add_one]
   congr 1
   simp only [List.map_cons, List.map_nil, List.filterMap_cons, List.filterMap_nil, List.getElem?_drop]
   have e : ((a : Int) + 1 * (n : Int)).toNat = a + n := by omega
   rw [e]
   cases q : l[a + n]? with
   | none => simp [q]
   | some v => simp [q]
 exact key _ a
theorem slice_cut (l : List Nat) (lo hi : Option Int) : Txt.slice ⟨l.toArray⟩ lo hi = ⟨(cutN l lo hi).toArray⟩ := by
 have hb := slice_bounds lo hi l.length
 have ei : Builtin.Str.strSliceIndices lo hi 1 l.length = (List.range (HT.sIx l.length l.length hi - HT.sIx l.length 0 lo)).map fun (k : Nat) => (((HT.sIx l.length 0 lo : Nat) : Int) + 1 * (k : Int)).toNat := by
  obtain ⟨h1, h2, h3⟩ := hb
  show sliceRange (sliceBounds lo hi none l.length).1 (sliceBounds lo hi none l.length).2.1 1 = _
  rw [h1, h2]
  unfold sliceRange
  simp only [show (1 : Int) > 0 by decide, if_true, Int.ediv_one]
  congr 2
  split <;> omega
 have hl : (⟨l.toArray⟩ : Str).length = l.length := by simp [Str.length]
 unfold Txt.slice
 rw [hl, ei]
 have e2 := picksN l (HT.sIx l.length 0 lo) (HT.sIx l.length l.length hi)
 split
 ·rename_i h
  simp only [List.length_map, List.length_range] at h
  have h' : HT.sIx l.length l.length hi - HT.sIx l.length 0 lo = l.length := by simpa using h
  have h3 : HT.sIx l.length l.length hi ≤ l.length := HT.sIx_le _ _ (Nat.le_refl _) _
  have h4 : HT.sIx l.length 0 lo = 0 ∨ l.length = 0 := by omega
  apply Str_ext
  simp only [cutN, h']
  rcases h4 with h4 | h4
  ·simp [h4]
  ·have : l = [] := List.length_eq_zero_iff.mp h4
   subst this
   simp
 ·apply Str_ext
  simp only [cutN]
  exact e2
theorem cutN_length (l : List Nat) (lo hi : Option Int) : (cutN l lo hi).length ≤ l.length := by
 simp only [cutN, List.length_take, List.length_drop]
 omega
def rSlS : V → Option Int → Option Int → Hp → VK → Prop := fun x lo hi H Q => ∃ l, x = S l ∧ l.length ≤ sizeLine ∧ Q (S (cutN l lo hi)) H
theorem part_val {v : Value} {o : Option Int} (p : IsPart v o) : ∃ q : Option (Int × Tok), v = partValue q ∧ q.map (·.1) = o := by
 cases p with
 | none => exact ⟨none, rfl, rfl⟩
 | int i t => exact ⟨some (i, t), rfl, rfl⟩
theorem sl_S : SlR X rSlS := by
 intro pins s σ H x v vl vu lo hi sl Q I rx hs pl pu ⟨l, ex, hl, q⟩
 subst ex
 obtain ⟨t, rfl⟩ := rx
 obtain ⟨ql, rfl, rfl⟩ := part_val pl
 obtain ⟨qu, rfl, rfl⟩ := part_val pu
 refine ⟨"str", _, F.slot_str_getitem.lookup, typeIs_str _ _ _, wpAny_getItem_str_slice (l := ql) (u := qu) (st := none) hs rfl ?_⟩
 have e : Txt.slice ⟨l.toArray⟩ (ql.map (·.1)) (qu.map (·.1)) = ⟨(cutN l (ql.map (·.1)) (qu.map (·.1))).toArray⟩ := slice_cut _ _ _
 have hz : (cutN l (ql.map (·.1)) (qu.map (·.1))).length ≤ sizeLine := Nat.le_trans (cutN_length _ _ _) hl
 refine post_val_or_made (fun _ => ?_) fun t' k => (fun ht => ⟨S (cutN l (ql.map (·.1)) (qu.map (·.1))), H, I.tok k, ⟨t', ?_⟩, q⟩)
 ·refine Nat.le_trans ?_ hl
  have := Txt.slice_le ⟨l.toArray⟩ (ql.map (·.1)) (qu.map (·.1))
  refine Nat.le_trans (List.length_filterMap_le _ _ |> fun h => (by simpa [Str.length] using h)) ?_
  have h2 := sliceIndices_le (ql.map (·.1)) (qu.map (·.1)) l.length
  simpa [slicePicked, Str.length] using h2
 ·rw [← e]
  rfl
def Itf (vs : List V) : It := ⟨fun i _ => i < vs.length, fun i H x H' => H' = H ∧ vs[i]? = some x, fun i _ => vs.length ≤ i⟩
def sgs (l : List Nat) : List V := l.map fun c => S [c]
theorem sgs_length (l : List Nat) : (sgs l).length = l.length := by simp [sgs]
theorem turn_str {P : Program} {w : World} {K : PySem.W.Frag} {tg : Expr} (it : Addr) (l : List Nat) (ty : String) (t : Tok) (hty : ty = "str_ascii_iterator" ∨ ty = "str_iterator") :
  Turn P w K tg (Itf (sgs l)) [it] it (fun i h => h.IsStrIter it ty ⟨l.toArray⟩ t i) := by
 have WW : ∀ A : Around, A.handled = none → Walks P w A it [it] [it] l.length (SignAt ⟨l.toArray⟩) (fun i h => h.IsStrIter it ty ⟨l.toArray⟩ t i) := fun A hh => by
  rcases hty with rfl | rfl
  ·simpa using Walks.strAscii (prog := P) (w := w) hh it ⟨l.toArray⟩ t
  ·simpa using Walks.strWide (prog := P) (w := w) hh it ⟨l.toArray⟩ t
 refine ⟨by simp, fun i h st b hb => ?_, fun i h h' st k => ?_, ?_, ?_, ?_⟩
 ·have e : b = it := by simpa using hb
  subst e
  obtain ⟨o, e, c, d⟩ := st
  exact ⟨o, e, fun v z => by rw [d] at z; cases z⟩
 ·obtain ⟨o, e, r⟩ := st
  exact ⟨o, k it (by simp) o e, r⟩
 ·intro X hP hw hK hc i pins s σ H E I hf st hg
  subst hP hw hK
  obtain ⟨f0, f1, f2, f3, f4, f5⟩ := hf it (by simp)
  have hi : i < l.length := by simpa [sgs] using (show i < (sgs l).length from hg)
  refine (WW X.A (I.ok.hd hc)).item i s _ _ hi st fun v h' tk hv st' kk ht => ?_
  obtain ⟨c, u, hcx, rfl⟩ := hv
  have I1 : Inv X pins σ H { s with heap := h', toks := tk } := I.turned (fun b o hb e => kk b o (by simpa using hb) e) f0 f1 f3 f4 f5
  obtain ⟨o, e, c', d⟩ := id st'
  refine ⟨_, rfl, go_of (s := { s with heap := h', toks := tk }) (n := ty) e c' d (by rcases hty with rfl | rfl <;> decide) fun _ => ⟨S [c], H, I1, ⟨u, rfl⟩, ⟨rfl, ?_⟩, st', fun b hb => (hf b hb).1⟩⟩
  have hcx' : l[i]? = some c := by simpa using hcx
  simp [sgs, hcx']
 ·intro X hP hw hK hc i pins s σ H E I hf st hg
  subst hP hw hK
  obtain ⟨f0, f1, f2, f3, f4, f5⟩ := hf it (by simp)
  have hi : l.length ≤ i := by simpa [sgs] using (show (sgs l).length ≤ i from hg)
  have none_at : (⟨l.toArray⟩ : Str).cps[i]? = none := by simp [hi]
  rcases hty with rfl | rfl
  ·exact wpAny_pyNext_ascii_end (I.ok.hd hc) st none_at fun h' eb => (fun ht => ⟨rfl, I.turned (t' := s.toks) (fun b o hb e => eb b o hb e) f0 f1 f3 f4 f5⟩)
  ·exact wpAny_pyNext_wide_end (I.ok.hd hc) st none_at fun h' eb => (fun ht => ⟨rfl, I.turned (t' := s.toks) (fun b o hb e => eb b o hb e) f0 f1 f3 f4 f5⟩)
 ·intro A i s Q E st h
  rcases hty with rfl | rfl
  ·exact wpAny_pyIter_striter_ascii st h
  ·exact wpAny_pyIter_striter_wide st h
def iStr (tl : TE) : TI := fun σ H R => tl σ H fun x H1 => ∃ l, x = S l ∧ R (Itf (sgs l)) H1
theorem pi_str {tg e : Expr} {tl : TE} (hl : PE X e tl) : PI X tg e (iStr tl) := by
 intro pins s σ H R I h
 refine thn (hl pins s σ H _ I h) fun v s1 ⟨x, H1, I1, r1, l, ex, q⟩ => ?_
 subst ex
 obtain ⟨t, rfl⟩ := r1
 refine fun _ => wpAny_pyIter_strU fun _ => ?_
 refine ⟨s1.heap.objs.size, [s1.heap.objs.size], _, _, H1, rfl, I1.kept (t' := s1.toks) fun b o e => Heap.get?_push_of_some _ e, turn_str _ l (strIterType ⟨l.toArray⟩) t ?_, ⟨_, Heap.get?_push_size _ rfl, rfl, rfl⟩, fun b hb => ?_, q⟩
 ·unfold strIterType
  split
  ·exact .inl rfl
  ·exact .inr rfl
 ·have e : b = s1.heap.objs.size := by simpa using hb
  subst e
  exact I1.fpOk (Nat.le_refl _) (I1.hok.fresh (Nat.le_refl _))
theorem range_all (bs : List Bool) : (List.range bs.length).all (fun i => bs[i]?.getD false) = bs.all id := by
 rw [Bool.eq_iff_iff, List.all_eq_true, List.all_eq_true]
 constructor
 ·intro h b hb
  obtain ⟨i, hi, rfl⟩ := List.mem_iff_getElem.mp hb
  have := h i (by simpa using hi)
  simpa [hi] using this
 ·intro h i hi
  have hi' : i < bs.length := by simpa using hi
  have := h bs[i] (List.getElem_mem hi')
  simpa [hi'] using this
theorem bools_truth {P : Program} {w : World} {A : Around} {bs : List Bool} {its : List Value} (r : Vals (bs.map V.bl) its) : TruthOf P w A (fun i v => its.toArray[i]? = some v) (fun i => bs[i]?.getD false) := by
 intro i v s Q E hP hQ
 have hP' : its[i]? = some v := by simpa using hP
 have hl := r.length
 have hi : i < its.length := (List.getElem?_eq_some_iff.mp hP').1
 have hb : i < bs.length := by simpa [← hl] using hi
 obtain ⟨u, hu, ru⟩ := r.get (i := i) (x := .bl bs[i]) (by simp [hb])
 rw [hP'] at hu
 cases hu
 cases ru
 have e : bs[i]?.getD false = bs[i] := by simp [hb]
 have hQ' : Q (bs[i]?.getD false) s := hQ
 rw [e] at hQ'
 exact wpAny_truthy_bool hQ'
theorem call_allB (hc : X.calm = true) : CallR X (.builtin "all") (fun xs H Q => ∃ (p : Addr) (bs : List Bool), xs = [.ref p] ∧ SqL X.K H p (bs.map V.bl) ∧ Q (.bl (bs.all id)) H) := by
 intro pins s σ H xs us Q I r ⟨p, bs, e, hq, q⟩
 subst e
 obtain ⟨u, rfl, ru⟩ := r.one
 cases ru
 obtain ⟨its, rv, pl, hz⟩ := I.list hq
 have hlt : p < s.heap.objs.size := by obtain ⟨o, n, e, _⟩ := pl; exact Heap.lt_size e
 refine call_all_walk (wpAny_pyIter_list pl.isList ⟨_, _, _, _, _, _, fun i => bs[i]?.getD false, rfl, Walks.list (A := X.A.in1) (I.ok.hd hc) s.heap.objs.size p (Nat.ne_of_lt hlt) its.toArray, ⟨⟨_, Heap.get?_push_size _ rfl, rfl, rfl⟩, pl.isList.push _⟩, bools_truth rv, fun h' tk hk => ?_⟩)
 refine (fun ht => ⟨.bl (bs.all id), H, I.kept (t' := tk) (fun b o e => hk b o (by simpa using Nat.ne_of_lt (Heap.lt_size e)) (Heap.get?_push_of_some _ e)), ?_, q⟩)
 have hl : its.toArray.size = bs.length := by have := rv.length; simp at this; simp [this]
 rw [hl, range_all]
 rfl
theorem op_isB : OpR X (compareOp .Is) (fun x y H Q => ∃ c d, x = .bl c ∧ y = .bl d ∧ Q (.bl (c == d)) H) := by
 intro pins s σ H x y v u Q I rx ry ⟨c, d, ex, ey, q⟩
 subst ex ey
 cases rx
 cases ry
 exact is_bool (fun ht => ⟨.bl _, H, I, rfl, q⟩)
end
section
variable (K : PySem.W.Frag) (H : Hp)
mutual
def Rep : Dt → V → Prop
 | .non, v => v = .non
 | .bl b, v => v = .bl b
 | .int i, v => v = .int i
 | .str l, v => v = S l
 | .tup ds, v => ∃ a xs, v = .ref a ∧ SqT K H a xs ∧ Reps ds xs
 | .lst ds, v => ∃ a xs, v = .ref a ∧ SqL K H a xs ∧ Reps ds xs
def Reps : List Dt → List V → Prop
 | [], xs => xs = []
 | d :: ds, xs => ∃ x r, xs = x :: r ∧ Rep d x ∧ Reps ds r
end
end
theorem Same.seqT {K : PySem.W.Frag} {H H' : Hp} {a : Addr} {xs : List V} (e : Same H H') (h : SqT K H a xs) : SqT K H' a xs := by
 rcases h with (h | ⟨o, h⟩) | h
 ·exact .inl (.inl (e _ _ h))
 ·exact .inl (.inr ⟨o, e _ _ h⟩)
 ·exact .inr h
mutual
theorem Rep.mono {K : PySem.W.Frag} {H H' : Hp} (e : Same H H') : ∀ {d : Dt} {v : V}, Rep K H d v → Rep K H' d v
 | .non, _, h => by simpa only [Rep] using h
 | .bl _, _, h => by simpa only [Rep] using h
 | .int _, _, h => by simpa only [Rep] using h
 | .str _, _, h => by simpa only [Rep] using h
 | .tup ds, _, h => by
  simp only [Rep] at h ⊢
  obtain ⟨a, xs, h1, h2, h3⟩ := h
  exact ⟨a, xs, h1, e.seqT h2, Reps.mono e h3⟩
 | .lst ds, _, h => by
  simp only [Rep] at h ⊢
  obtain ⟨a, xs, h1, h2, h3⟩ := h
  exact ⟨a, xs, h1, e.seq h2, Reps.mono e h3⟩
theorem Reps.mono {K : PySem.W.Frag} {H H' : Hp} (e : Same H H') : ∀ {ds : List Dt} {xs : List V}, Reps K H ds xs → Reps K H' ds xs
 | [], _, h => by simpa only [Reps] using h
 | d :: ds, _, h => by
  simp only [Reps] at h ⊢
  obtain ⟨x, r, h1, h2, h3⟩ := h
  exact ⟨x, r, h1, Rep.mono e h2, Reps.mono e h3⟩
end
theorem Reps.nil {K : PySem.W.Frag} {H : Hp} : Reps K H [] [] := by simp only [Reps]
theorem Reps.cons {K : PySem.W.Frag} {H : Hp} {d : Dt} {ds : List Dt} {x : V} {xs : List V} (h : Rep K H d x) (t : Reps K H ds xs) : Reps K H (d :: ds) (x :: xs) := by
 simp only [Reps]
 exact ⟨x, xs, rfl, h, t⟩
theorem Reps.length {K : PySem.W.Frag} {H : Hp} : ∀ {ds : List Dt} {xs : List V}, Reps K H ds xs → ds.length = xs.length
 | [], _, h => by simp only [Reps] at h; subst h; rfl
 | d :: ds, _, h => by
  simp only [Reps] at h
  obtain ⟨x, r, rfl, _, h3⟩ := h
  simp [Reps.length h3]
theorem Reps.get {K : PySem.W.Frag} {H : Hp} : ∀ {ds : List Dt} {xs : List V} {i : Nat} {x : V}, Reps K H ds xs → xs[i]? = some x → ∃ d, ds[i]? = some d ∧ Rep K H d x
 | [], _, i, x, h, e => by simp only [Reps] at h; subst h; simp at e
 | d :: ds, _, 0, x, h, e => by
  simp only [Reps] at h
  obtain ⟨y, r, rfl, h2, _⟩ := h
  simp at e
  subst e
  exact ⟨d, rfl, h2⟩
 | d :: ds, _, i + 1, x, h, e => by
  simp only [Reps] at h
  obtain ⟨y, r, rfl, _, h3⟩ := h
  obtain ⟨d', a, b⟩ := Reps.get (i := i) (x := x) h3 (by simpa using e)
  exact ⟨d', by simpa using a, b⟩
theorem Reps.append {K : PySem.W.Frag} {H : Hp} : ∀ {ds es : List Dt} {xs ys : List V}, Reps K H ds xs → Reps K H es ys → Reps K H (ds ++ es) (xs ++ ys)
 | [], es, xs, ys, h, t => by simp only [Reps] at h; subst h; simpa using t
 | d :: ds, es, xs, ys, h, t => by
  simp only [Reps] at h
  obtain ⟨x, r, rfl, h2, h3⟩ := h
  exact .cons h2 (Reps.append h3 t)
theorem rep_int {K : PySem.W.Frag} {H : Hp} {i : Int} : Rep K H (.int i) (.int i) := by simp only [Rep]
theorem rep_str {K : PySem.W.Frag} {H : Hp} {l : List Nat} : Rep K H (.str l) (S l) := by simp only [Rep]
theorem rep_bl {K : PySem.W.Frag} {H : Hp} {b : Bool} : Rep K H (.bl b) (.bl b) := by simp only [Rep]
theorem rep_non {K : PySem.W.Frag} {H : Hp} : Rep K H .non .non := by simp only [Rep]
theorem rep_tup {K : PySem.W.Frag} {H : Hp} {a : Addr} {xs : List V} {ds : List Dt} (h : H a = some (.tup xs)) (r : Reps K H ds xs) : Rep K H (.tup ds) (.ref a) := by
 simp only [Rep]
 exact ⟨a, xs, rfl, .of h, r⟩
theorem rep_lst {K : PySem.W.Frag} {H : Hp} {a : Addr} {xs : List V} {ds : List Dt} (h : H a = some (.lst xs)) (r : Reps K H ds xs) : Rep K H (.lst ds) (.ref a) := by
 simp only [Rep]
 exact ⟨a, xs, rfl, .of h, r⟩
theorem Inv.list_tuple {X : Cx} {pins : List (Addr × Obj)} {σ : St} {H : Hp} {s : Shared} {a : Addr} {xs ys : List V} (I : Inv X pins σ H s) (h : SqL X.K H a xs) (h' : SqT X.K H a ys) : False := by
 obtain ⟨its, r, ⟨o, n, e, c, _⟩, _⟩ := I.list h
 obtain ⟨its', r', ⟨o', e', c', _⟩, _⟩ := I.tuple h'
 rw [e] at e'
 cases e'
 rw [c] at c'
 injection c' with c'
 exact absurd c' (by decide)
mutual
theorem Rep.inj {X : Cx} {pins : List (Addr × Obj)} {σ : St} {H : Hp} {s : Shared} (I : Inv X pins σ H s) : ∀ {d e : Dt} {v : V}, Rep X.K H d v → Rep X.K H e v → d = e
 | .non, e, v, h, h' => by
  simp only [Rep] at h
  subst h
  cases e <;> simp only [Rep] at h' <;> first | rfl | (exfalso; first | exact nomatch h' | (obtain ⟨_, _, z, _⟩ := h'; exact nomatch z))
 | .bl b, e, v, h, h' => by
  simp only [Rep] at h
  subst h
  cases e <;> simp only [Rep] at h' <;> first | (injection h' with h'; rw [h']) | (exfalso; first | exact nomatch h' | (obtain ⟨_, _, z, _⟩ := h'; exact nomatch z))
 | .int i, e, v, h, h' => by
  simp only [Rep] at h
  subst h
  cases e <;> simp only [Rep] at h' <;> first | (injection h' with h'; rw [h']) | (exfalso; first | exact nomatch h' | (obtain ⟨_, _, z, _⟩ := h'; exact nomatch z))
 | .str l, e, v, h, h' => by
  simp only [Rep] at h
  subst h
  cases e with
  | str l' => simp only [Rep] at h'; rw [S_inj h']
  | _ => simp only [Rep] at h'; exfalso; first | exact nomatch h' | (obtain ⟨_, _, z, _⟩ := h'; exact nomatch z)
 | .tup ds, e, v, h, h' => by
  simp only [Rep] at h
  obtain ⟨a, xs, rfl, h2, h3⟩ := h
  cases e with
  | tup es =>
   simp only [Rep] at h'
   obtain ⟨b, ys, hb, h4, h5⟩ := h'
   cases hb
   rw [I.tuple_inj h2 h4] at h3
   rw [Reps.inj I h3 h5]
  | lst es =>
   simp only [Rep] at h'
   obtain ⟨b, ys, hb, h4, h5⟩ := h'
   cases hb
   exact (I.list_tuple h4 h2).elim
  | _ => simp only [Rep] at h'; exfalso; exact nomatch h'
 | .lst ds, e, v, h, h' => by
  simp only [Rep] at h
  obtain ⟨a, xs, rfl, h2, h3⟩ := h
  cases e with
  | lst es =>
   simp only [Rep] at h'
   obtain ⟨b, ys, hb, h4, h5⟩ := h'
   cases hb
   rw [I.list_inj h2 h4] at h3
   rw [Reps.inj I h3 h5]
  | tup es =>
   simp only [Rep] at h'
   obtain ⟨b, ys, hb, h4, h5⟩ := h'
   cases hb
   exact (I.list_tuple h2 h4).elim
  | _ => simp only [Rep] at h'; exfalso; exact nomatch h'
theorem Reps.inj {X : Cx} {pins : List (Addr × Obj)} {σ : St} {H : Hp} {s : Shared} (I : Inv X pins σ H s) : ∀ {ds es : List Dt} {xs : List V}, Reps X.K H ds xs → Reps X.K H es xs → ds = es
 | [], es, xs, h, h' => by
  simp only [Reps] at h
  subst h
  cases es with
  | nil => rfl
  | cons e es => simp only [Reps] at h'; obtain ⟨_, _, z, _⟩ := h'; cases z
 | d :: ds, es, xs, h, h' => by
  simp only [Reps] at h
  obtain ⟨x, r, rfl, h2, h3⟩ := h
  cases es with
  | nil => simp only [Reps] at h'; cases h'
  | cons e es =>
   simp only [Reps] at h'
   obtain ⟨y, t, z, h4, h5⟩ := h'
   injection z with z1 z2
   subst z1 z2
   rw [Rep.inj I h2 h4, Reps.inj I h3 h5]
end
mutual
theorem eqD_refl : ∀ d : Dt, eqD d d = true
 | .non => rfl
 | .bl b => by simp [eqD]
 | .int b => by simp [eqD]
 | .str b => by simp [eqD]
 | .tup b => by simp only [eqD]; exact eqDs_refl b
 | .lst b => by simp only [eqD]; exact eqDs_refl b
theorem eqDs_refl : ∀ d : List Dt, eqDs d d = true
 | [] => rfl
 | a :: r => by simp only [eqDs]; rw [eqD_refl a, eqDs_refl r]; rfl
end
theorem eqDs_len : ∀ {a b : List Dt}, a.length ≠ b.length → eqDs a b = false
 | [], [], h => absurd rfl h
 | [], _ :: _, _ => by simp only [eqDs]
 | _ :: _, [], _ => by simp only [eqDs]
 | a :: r, b :: t, h => by
  simp only [eqDs]
  rw [eqDs_len (a := r) (b := t) (by simpa using h), Bool.and_false]
theorem eqDs_all : ∀ (a b : List Dt), a.length = b.length → (List.range a.length).all (fun i => match a[i]?, b[i]? with | some x, some y => eqD x y | _, _ => true) = eqDs a b
 | [], [], _ => by simp [eqDs]
 | x :: r, y :: t, h => by
  have ih := eqDs_all r t (by simpa using h)
  simp only [List.length_cons, eqDs]
  rw [List.range_succ_eq_map, List.all_cons, List.all_map]
  simp only [List.getElem?_cons_zero]
  rw [← ih]
  congr 1
theorem str_beqS (a b : List Nat) : ((⟨a.toArray⟩ : Str) == ⟨b.toArray⟩) = (a == b) := by
 rw [Bool.eq_iff_iff]
 simp only [beq_iff_eq]
 constructor
 ·intro h
  injection h with h
  simpa using congrArg Array.toList h
 ·intro h; rw [h]
theorem dep_mem {d : Dt} : ∀ {ds : List Dt}, d ∈ ds → dep d ≤ deps ds
 | e :: ds, h => by
  simp only [deps]
  rcases List.mem_cons.mp h with h | h
  ·subst h; omega
  ·have := dep_mem h; omega
section
variable {X : Cx} {pins : List (Addr × Obj)} {σ : St} {H : Hp} {s : Shared}
theorem Inv.repL (I : Inv X pins σ H s) {ds : List Dt} {v : V} (h : Rep X.K H (.lst ds) v) : ∃ a xs, v = .ref a ∧ SqL X.K H a xs ∧ Reps X.K H ds xs ∧ ∃ its : List Value, Vals xs its ∧ s.heap.IsList a its.toArray := by
 simp only [Rep] at h
 obtain ⟨a, xs, rfl, h2, h3⟩ := h
 obtain ⟨its, r, p, _⟩ := I.list h2
 exact ⟨a, xs, rfl, h2, h3, its, r, p.isList⟩
theorem Inv.repT (I : Inv X pins σ H s) {ds : List Dt} {v : V} (h : Rep X.K H (.tup ds) v) : ∃ a xs, v = .ref a ∧ SqT X.K H a xs ∧ Reps X.K H ds xs ∧ ∃ its : List Value, Vals xs its ∧ s.heap.IsTuple a its.toArray := by
 simp only [Rep] at h
 obtain ⟨a, xs, rfl, h2, h3⟩ := h
 obtain ⟨its, r, p, _⟩ := I.tuple h2
 exact ⟨a, xs, rfl, h2, h3, its, r, p⟩
theorem items_eq (A : Around) (I : Inv X pins σ H s) {ds es : List Dt} {xs ys : List V} {us vs : List Value} (rx : Reps X.K H ds xs) (ry : Reps X.K H es ys) (ru : Vals xs us) (rv : Vals ys vs)
  (ih : ∀ d ∈ ds, ∀ e v w u t, Rep X.K H d v → Rep X.K H e w → RelV v u → RelV w t → SeqAt.EqAt A s u t (eqD d e)) :
  ∀ j (h1 : j < us.toArray.size) (h2 : j < vs.toArray.size), SeqAt.EqAt A s us.toArray[j] vs.toArray[j] ((fun i => match ds[i]?, es[i]? with | some x, some y => eqD x y | _, _ => true) j) := by
 intro j h1 h2
 have h1' : j < us.length := by simpa using h1
 have h2' : j < vs.length := by simpa using h2
 have e1 := ru.length
 have e2 := rv.length
 have hx : j < xs.length := by omega
 have hy : j < ys.length := by omega
 obtain ⟨d, hd, rd⟩ := rx.get (i := j) (x := xs[j]) (by simp [hx])
 obtain ⟨e, he, re⟩ := ry.get (i := j) (x := ys[j]) (by simp [hy])
 obtain ⟨u, hu, ru'⟩ := ru.get (i := j) (x := xs[j]) (by simp [hx])
 obtain ⟨t, ht, rt'⟩ := rv.get (i := j) (x := ys[j]) (by simp [hy])
 have hu' : us[j] = u := by simpa [h1'] using hu
 have ht' : vs[j] = t := by simpa [h2'] using ht
 have hm : d ∈ ds := List.mem_of_getElem? hd
 simp only [hd, he, List.getElem_toArray, hu', ht']
 exact ih d hm e _ _ u t rd re ru' rt'
theorem lists_rc (A : Around) (I : Inv X pins σ H s) {a b : Addr} {ds es : List Dt} {xs ys : List V} {us vs : List Value} (rx : Reps X.K H ds xs) (ry : Reps X.K H es ys) (ru : Vals xs us) (rv : Vals ys vs)
  (pa : s.heap.IsList a us.toArray) (pb : s.heap.IsList b vs.toArray) (hu : A.units < cLine)
  (ih : ∀ d ∈ ds, ∀ e v w u t, Rep X.K H d v → Rep X.K H e w → RelV v u → RelV w t → SeqAt.EqAt A.in1 s u t (eqD d e)) : SeqAt.RcAt A s (.ref a) (.ref b) (eqD (.lst ds) (.lst es)) := by
 have l1 := rx.length
 have l2 := ry.length
 have l3 := ru.length
 have l4 := rv.length
 simp only [eqD]
 by_cases hl : ds.length = es.length
 ·have z := SeqAt.RcAt.lists pa pb (by simp; omega) hu (items_eq A.in1 I rx ry ru rv ih)
  rw [show us.toArray.size = ds.length by simp; omega] at z
  rw [eqDs_all ds es hl] at z
  exact z
 ·have z := SeqAt.RcAt.lists_lengths pa pb (by simp; omega) hu
  rw [eqDs_len hl]
  exact z
theorem tuples_rc (A : Around) (I : Inv X pins σ H s) {a b : Addr} {ds es : List Dt} {xs ys : List V} {us vs : List Value} (rx : Reps X.K H ds xs) (ry : Reps X.K H es ys) (ru : Vals xs us) (rv : Vals ys vs)
  (pa : s.heap.IsTuple a us.toArray) (pb : s.heap.IsTuple b vs.toArray) (hu : A.units < cLine)
  (ih : ∀ d ∈ ds, ∀ e v w u t, Rep X.K H d v → Rep X.K H e w → RelV v u → RelV w t → SeqAt.EqAt A.in1 s u t (eqD d e)) : SeqAt.RcAt A s (.ref a) (.ref b) (eqD (.tup ds) (.tup es)) := by
 have l1 := rx.length
 have l2 := ry.length
 have l3 := ru.length
 have l4 := rv.length
 simp only [eqD]
 have z := SeqAt.RcAt.tuples pa pb hu (items_eq A.in1 I rx ry ru rv ih)
 by_cases hl : ds.length = es.length
 ·rw [show min us.toArray.size vs.toArray.size = ds.length by simp; omega, show (us.toArray.size == vs.toArray.size) = true by simp; omega, Bool.and_true] at z
  rw [eqDs_all ds es hl] at z
  exact z
 ·rw [show (us.toArray.size == vs.toArray.size) = false by simp; omega, Bool.and_false] at z
  rw [eqDs_len hl]
  exact z
theorem lists_ne (A : Around) (I : Inv X pins σ H s) {a b : Addr} {ds es : List Dt} {xs ys : List V} {us vs : List Value} (rx : Reps X.K H ds xs) (ry : Reps X.K H es ys) (ru : Vals xs us) (rv : Vals ys vs)
  (pa : s.heap.IsList a us.toArray) (pb : s.heap.IsList b vs.toArray) (hu : A.units < cLine)
  (ih : ∀ d ∈ ds, ∀ e v w u t, Rep X.K H d v → Rep X.K H e w → RelV v u → RelV w t → SeqAt.EqAt A.in1 s u t (eqD d e)) : SeqAt.RcNeAt A s (.ref a) (.ref b) (!eqD (.lst ds) (.lst es)) := by
 have l1 := rx.length
 have l2 := ry.length
 have l3 := ru.length
 have l4 := rv.length
 simp only [eqD]
 by_cases hl : ds.length = es.length
 ·have z := SeqAt.RcNeAt.lists pa pb (by simp; omega) hu (items_eq A.in1 I rx ry ru rv ih)
  rw [show us.toArray.size = ds.length by simp; omega] at z
  rw [eqDs_all ds es hl] at z
  exact z
 ·have z := SeqAt.RcNeAt.lists_lengths pa pb (by simp; omega) hu
  rw [eqDs_len hl]
  exact z
theorem tuples_ne (A : Around) (I : Inv X pins σ H s) {a b : Addr} {ds es : List Dt} {xs ys : List V} {us vs : List Value} (rx : Reps X.K H ds xs) (ry : Reps X.K H es ys) (ru : Vals xs us) (rv : Vals ys vs)
  (pa : s.heap.IsTuple a us.toArray) (pb : s.heap.IsTuple b vs.toArray) (hu : A.units < cLine)
  (ih : ∀ d ∈ ds, ∀ e v w u t, Rep X.K H d v → Rep X.K H e w → RelV v u → RelV w t → SeqAt.EqAt A.in1 s u t (eqD d e)) : SeqAt.RcNeAt A s (.ref a) (.ref b) (!eqD (.tup ds) (.tup es)) := by
 have l1 := rx.length
 have l2 := ry.length
 have l3 := ru.length
 have l4 := rv.length
 simp only [eqD]
 have z := SeqAt.RcNeAt.tuples pa pb hu (items_eq A.in1 I rx ry ru rv ih)
 by_cases hl : ds.length = es.length
 ·rw [show min us.toArray.size vs.toArray.size = ds.length by simp; omega, show (us.toArray.size == vs.toArray.size) = true by simp; omega, Bool.and_true] at z
  rw [eqDs_all ds es hl] at z
  exact z
 ·rw [show (us.toArray.size == vs.toArray.size) = false by simp; omega, Bool.and_false] at z
  rw [eqDs_len hl]
  exact z
theorem eqAt_rep {A : Around} (I : Inv X pins σ H s) : ∀ (d e : Dt) (v w : V) (u t : Value), Rep X.K H d v → Rep X.K H e w → RelV v u → RelV w t → A.units + dep d < cLine → SeqAt.EqAt A s u t (eqD d e)
 | .non, .non, v, w, u, t, h, h', r, r', hu => by
  simp only [Rep] at h
  subst h
  cases r
  simp only [Rep] at h'
  subst h'
  cases r'
  simp only [eqD]
  exact SeqAt.EqAt.same _
 | .non, .bl _, v, w, u, t, h, h', r, r', hu => by
  simp only [Rep] at h
  subst h
  cases r
  simp only [Rep] at h'
  subst h'
  cases r'
  simp only [eqD]
  exact SeqAt.EqAt.none_bool _
 | .non, .int _, v, w, u, t, h, h', r, r', hu => by
  simp only [Rep] at h
  subst h
  cases r
  simp only [Rep] at h'
  subst h'
  obtain ⟨t2, rfl⟩ := r'
  simp only [eqD]
  exact SeqAt.EqAt.none_int _ _
 | .non, .str lb, v, w, u, t, h, h', r, r', hu => by
  simp only [Rep] at h
  subst h
  cases r
  simp only [Rep] at h'
  subst h'
  obtain ⟨t2, rfl⟩ := r'
  simp only [eqD]
  exact SeqAt.EqAt.none_str _ _
 | .non, .tup es, v, w, u, t, h, h', r, r', hu => by
  simp only [Rep] at h
  subst h
  cases r
  obtain ⟨a2, xs2, rfl, _, _, its2, _, p2⟩ := I.repT h'
  cases r'
  simp only [eqD]
  exact SeqAt.EqAt.none_tuple  p2 (by omega)
 | .non, .lst es, v, w, u, t, h, h', r, r', hu => by
  simp only [Rep] at h
  subst h
  cases r
  obtain ⟨a2, xs2, rfl, _, _, its2, _, p2⟩ := I.repL h'
  cases r'
  simp only [eqD]
  exact SeqAt.EqAt.none_list  p2 (by omega)
 | .bl _, .non, v, w, u, t, h, h', r, r', hu => by
  simp only [Rep] at h
  subst h
  cases r
  simp only [Rep] at h'
  subst h'
  cases r'
  simp only [eqD]
  exact SeqAt.EqAt.bool_none _
 | .bl _, .bl _, v, w, u, t, h, h', r, r', hu => by
  simp only [Rep] at h
  subst h
  cases r
  simp only [Rep] at h'
  subst h'
  cases r'
  simp only [eqD]
  exact SeqAt.EqAt.bool_bool _ _
 | .bl _, .int _, v, w, u, t, h, h', r, r', hu => by
  simp only [Rep] at h
  subst h
  cases r
  simp only [Rep] at h'
  subst h'
  obtain ⟨t2, rfl⟩ := r'
  simp only [eqD]
  exact SeqAt.EqAt.bool_int _ _ _
 | .bl _, .str lb, v, w, u, t, h, h', r, r', hu => by
  simp only [Rep] at h
  subst h
  cases r
  simp only [Rep] at h'
  subst h'
  obtain ⟨t2, rfl⟩ := r'
  simp only [eqD]
  exact SeqAt.EqAt.bool_str _ _ _
 | .bl _, .tup es, v, w, u, t, h, h', r, r', hu => by
  simp only [Rep] at h
  subst h
  cases r
  obtain ⟨a2, xs2, rfl, _, _, its2, _, p2⟩ := I.repT h'
  cases r'
  simp only [eqD]
  exact SeqAt.EqAt.bool_tuple _ p2 (by omega)
 | .bl _, .lst es, v, w, u, t, h, h', r, r', hu => by
  simp only [Rep] at h
  subst h
  cases r
  obtain ⟨a2, xs2, rfl, _, _, its2, _, p2⟩ := I.repL h'
  cases r'
  simp only [eqD]
  exact SeqAt.EqAt.bool_list _ p2 (by omega)
 | .int _, .non, v, w, u, t, h, h', r, r', hu => by
  simp only [Rep] at h
  subst h
  obtain ⟨t1, rfl⟩ := r
  simp only [Rep] at h'
  subst h'
  cases r'
  simp only [eqD]
  exact SeqAt.EqAt.int_none _ _
 | .int _, .bl _, v, w, u, t, h, h', r, r', hu => by
  simp only [Rep] at h
  subst h
  obtain ⟨t1, rfl⟩ := r
  simp only [Rep] at h'
  subst h'
  cases r'
  simp only [eqD]
  exact SeqAt.EqAt.int_bool _ _ _
 | .int _, .int _, v, w, u, t, h, h', r, r', hu => by
  simp only [Rep] at h
  subst h
  obtain ⟨t1, rfl⟩ := r
  simp only [Rep] at h'
  subst h'
  obtain ⟨t2, rfl⟩ := r'
  simp only [eqD]
  exact SeqAt.EqAt.int_int _ _ _ _
 | .int _, .str lb, v, w, u, t, h, h', r, r', hu => by
  simp only [Rep] at h
  subst h
  obtain ⟨t1, rfl⟩ := r
  simp only [Rep] at h'
  subst h'
  obtain ⟨t2, rfl⟩ := r'
  simp only [eqD]
  exact SeqAt.EqAt.int_str _ _ _ _
 | .int _, .tup es, v, w, u, t, h, h', r, r', hu => by
  simp only [Rep] at h
  subst h
  obtain ⟨t1, rfl⟩ := r
  obtain ⟨a2, xs2, rfl, _, _, its2, _, p2⟩ := I.repT h'
  cases r'
  simp only [eqD]
  exact SeqAt.EqAt.int_tuple _ _ p2 (by omega)
 | .int _, .lst es, v, w, u, t, h, h', r, r', hu => by
  simp only [Rep] at h
  subst h
  obtain ⟨t1, rfl⟩ := r
  obtain ⟨a2, xs2, rfl, _, _, its2, _, p2⟩ := I.repL h'
  cases r'
  simp only [eqD]
  exact SeqAt.EqAt.int_list _ _ p2 (by omega)
 | .str la, .non, v, w, u, t, h, h', r, r', hu => by
  simp only [Rep] at h
  subst h
  obtain ⟨t1, rfl⟩ := r
  simp only [Rep] at h'
  subst h'
  cases r'
  simp only [eqD]
  exact SeqAt.EqAt.str_none _ _
 | .str la, .bl _, v, w, u, t, h, h', r, r', hu => by
  simp only [Rep] at h
  subst h
  obtain ⟨t1, rfl⟩ := r
  simp only [Rep] at h'
  subst h'
  cases r'
  simp only [eqD]
  exact SeqAt.EqAt.str_bool _ _ _
 | .str la, .int _, v, w, u, t, h, h', r, r', hu => by
  simp only [Rep] at h
  subst h
  obtain ⟨t1, rfl⟩ := r
  simp only [Rep] at h'
  subst h'
  obtain ⟨t2, rfl⟩ := r'
  simp only [eqD]
  exact SeqAt.EqAt.str_int _ _ _ _
 | .str la, .str lb, v, w, u, t, h, h', r, r', hu => by
  simp only [Rep] at h
  subst h
  obtain ⟨t1, rfl⟩ := r
  simp only [Rep] at h'
  subst h'
  obtain ⟨t2, rfl⟩ := r'
  have z := SeqAt.EqAt.str_str (A := A) (s := s) ⟨la.toArray⟩ t1 ⟨lb.toArray⟩ t2
  rw [str_beqS] at z
  simpa only [eqD] using z
 | .str la, .tup es, v, w, u, t, h, h', r, r', hu => by
  simp only [Rep] at h
  subst h
  obtain ⟨t1, rfl⟩ := r
  obtain ⟨a2, xs2, rfl, _, _, its2, _, p2⟩ := I.repT h'
  cases r'
  simp only [eqD]
  exact SeqAt.EqAt.str_tuple _ _ p2 (by omega)
 | .str la, .lst es, v, w, u, t, h, h', r, r', hu => by
  simp only [Rep] at h
  subst h
  obtain ⟨t1, rfl⟩ := r
  obtain ⟨a2, xs2, rfl, _, _, its2, _, p2⟩ := I.repL h'
  cases r'
  simp only [eqD]
  exact SeqAt.EqAt.str_list _ _ p2 (by omega)
 | .tup ds, .non, v, w, u, t, h, h', r, r', hu => by
  obtain ⟨a1, xs1, rfl, _, _, its1, _, p1⟩ := I.repT h
  cases r
  simp only [Rep] at h'
  subst h'
  cases r'
  simp only [eqD]
  exact SeqAt.EqAt.tuple_none  p1 (by omega)
 | .tup ds, .bl _, v, w, u, t, h, h', r, r', hu => by
  obtain ⟨a1, xs1, rfl, _, _, its1, _, p1⟩ := I.repT h
  cases r
  simp only [Rep] at h'
  subst h'
  cases r'
  simp only [eqD]
  exact SeqAt.EqAt.tuple_bool _ p1 (by omega)
 | .tup ds, .int _, v, w, u, t, h, h', r, r', hu => by
  obtain ⟨a1, xs1, rfl, _, _, its1, _, p1⟩ := I.repT h
  cases r
  simp only [Rep] at h'
  subst h'
  obtain ⟨t2, rfl⟩ := r'
  simp only [eqD]
  exact SeqAt.EqAt.tuple_int _ _ p1 (by omega)
 | .tup ds, .str lb, v, w, u, t, h, h', r, r', hu => by
  obtain ⟨a1, xs1, rfl, _, _, its1, _, p1⟩ := I.repT h
  cases r
  simp only [Rep] at h'
  subst h'
  obtain ⟨t2, rfl⟩ := r'
  simp only [eqD]
  exact SeqAt.EqAt.tuple_str _ _ p1 (by omega)
 | .tup ds, .lst es, v, w, u, t, h, h', r, r', hu => by
  obtain ⟨a1, xs1, rfl, _, _, its1, _, p1⟩ := I.repT h
  cases r
  obtain ⟨a2, xs2, rfl, _, _, its2, _, p2⟩ := I.repL h'
  cases r'
  simp only [eqD]
  exact SeqAt.EqAt.tuple_list  p1 p2 (by omega)
 | .lst ds, .non, v, w, u, t, h, h', r, r', hu => by
  obtain ⟨a1, xs1, rfl, _, _, its1, _, p1⟩ := I.repL h
  cases r
  simp only [Rep] at h'
  subst h'
  cases r'
  simp only [eqD]
  exact SeqAt.EqAt.list_none  p1 (by omega)
 | .lst ds, .bl _, v, w, u, t, h, h', r, r', hu => by
  obtain ⟨a1, xs1, rfl, _, _, its1, _, p1⟩ := I.repL h
  cases r
  simp only [Rep] at h'
  subst h'
  cases r'
  simp only [eqD]
  exact SeqAt.EqAt.list_bool _ p1 (by omega)
 | .lst ds, .int _, v, w, u, t, h, h', r, r', hu => by
  obtain ⟨a1, xs1, rfl, _, _, its1, _, p1⟩ := I.repL h
  cases r
  simp only [Rep] at h'
  subst h'
  obtain ⟨t2, rfl⟩ := r'
  simp only [eqD]
  exact SeqAt.EqAt.list_int _ _ p1 (by omega)
 | .lst ds, .str lb, v, w, u, t, h, h', r, r', hu => by
  obtain ⟨a1, xs1, rfl, _, _, its1, _, p1⟩ := I.repL h
  cases r
  simp only [Rep] at h'
  subst h'
  obtain ⟨t2, rfl⟩ := r'
  simp only [eqD]
  exact SeqAt.EqAt.list_str _ _ p1 (by omega)
 | .lst ds, .tup es, v, w, u, t, h, h', r, r', hu => by
  obtain ⟨a1, xs1, rfl, _, _, its1, _, p1⟩ := I.repL h
  cases r
  obtain ⟨a2, xs2, rfl, _, _, its2, _, p2⟩ := I.repT h'
  cases r'
  simp only [eqD]
  exact SeqAt.EqAt.list_tuple  p1 p2 (by omega)
 | .lst ds, .lst es, v, w, u, t, h, h', r, r', hu => by
  obtain ⟨a1, xs1, rfl, s1, q1, its1, v1, p1⟩ := I.repL h
  obtain ⟨a2, xs2, rfl, s2, q2, its2, v2, p2⟩ := I.repL h'
  cases r
  cases r'
  by_cases hab : a1 = a2
  ·subst hab
   have e := Rep.inj I h h'
   rw [e, eqD_refl]
   exact .same _
  ·exact .of_refs hab (lists_rc A I q1 q2 v1 v2 p1 p2 (by omega) fun d hd e v w u t hv hw rv rw' => eqAt_rep (A := A.in1) I d e v w u t hv hw rv rw' (by
    have := dep_mem hd
    simp only [dep] at hu
    show A.units + 1 + dep d < cLine
    omega))
 | .tup ds, .tup es, v, w, u, t, h, h', r, r', hu => by
  obtain ⟨a1, xs1, rfl, s1, q1, its1, v1, p1⟩ := I.repT h
  obtain ⟨a2, xs2, rfl, s2, q2, its2, v2, p2⟩ := I.repT h'
  cases r
  cases r'
  by_cases hab : a1 = a2
  ·subst hab
   have e := Rep.inj I h h'
   rw [e, eqD_refl]
   exact .same _
  ·exact .of_refs hab (tuples_rc A I q1 q2 v1 v2 p1 p2 (by omega) fun d hd e v w u t hv hw rv rw' => eqAt_rep (A := A.in1) I d e v w u t hv hw rv rw' (by
    have := dep_mem hd
    simp only [dep] at hu
    show A.units + 1 + dep d < cLine
    omega))
termination_by d => sizeOf d
decreasing_by
 all_goals
  have := List.sizeOf_lt_of_mem hd
  simp_wf
  omega
theorem rcAt_rep {A : Around} (I : Inv X pins σ H s) : ∀ (d e : Dt) (v w : V) (u t : Value), Rep X.K H d v → Rep X.K H e w → RelV v u → RelV w t → A.units + dep d < cLine → SeqAt.RcAt A s u t (eqD d e)
 | .non, .non, v, w, u, t, h, h', r, r', hu => by
  simp only [Rep] at h
  subst h
  cases r
  simp only [Rep] at h'
  subst h'
  cases r'
  simp only [eqD]
  exact SeqAt.RcAt.none_none
 | .non, .bl _, v, w, u, t, h, h', r, r', hu => by
  simp only [Rep] at h
  subst h
  cases r
  simp only [Rep] at h'
  subst h'
  cases r'
  simp only [eqD]
  exact SeqAt.RcAt.none_bool _
 | .non, .int _, v, w, u, t, h, h', r, r', hu => by
  simp only [Rep] at h
  subst h
  cases r
  simp only [Rep] at h'
  subst h'
  obtain ⟨t2, rfl⟩ := r'
  simp only [eqD]
  exact SeqAt.RcAt.none_int _ _
 | .non, .str lb, v, w, u, t, h, h', r, r', hu => by
  simp only [Rep] at h
  subst h
  cases r
  simp only [Rep] at h'
  subst h'
  obtain ⟨t2, rfl⟩ := r'
  simp only [eqD]
  exact SeqAt.RcAt.none_str _ _
 | .non, .tup es, v, w, u, t, h, h', r, r', hu => by
  simp only [Rep] at h
  subst h
  cases r
  obtain ⟨a2, xs2, rfl, _, _, its2, _, p2⟩ := I.repT h'
  cases r'
  simp only [eqD]
  exact SeqAt.RcAt.none_tuple  p2 (by omega)
 | .non, .lst es, v, w, u, t, h, h', r, r', hu => by
  simp only [Rep] at h
  subst h
  cases r
  obtain ⟨a2, xs2, rfl, _, _, its2, _, p2⟩ := I.repL h'
  cases r'
  simp only [eqD]
  exact SeqAt.RcAt.none_list  p2 (by omega)
 | .bl _, .non, v, w, u, t, h, h', r, r', hu => by
  simp only [Rep] at h
  subst h
  cases r
  simp only [Rep] at h'
  subst h'
  cases r'
  simp only [eqD]
  exact SeqAt.RcAt.bool_none _
 | .bl _, .bl _, v, w, u, t, h, h', r, r', hu => by
  simp only [Rep] at h
  subst h
  cases r
  simp only [Rep] at h'
  subst h'
  cases r'
  simp only [eqD]
  exact SeqAt.RcAt.bool_bool _ _
 | .bl _, .int _, v, w, u, t, h, h', r, r', hu => by
  simp only [Rep] at h
  subst h
  cases r
  simp only [Rep] at h'
  subst h'
  obtain ⟨t2, rfl⟩ := r'
  simp only [eqD]
  exact SeqAt.RcAt.bool_int _ _ _
 | .bl _, .str lb, v, w, u, t, h, h', r, r', hu => by
  simp only [Rep] at h
  subst h
  cases r
  simp only [Rep] at h'
  subst h'
  obtain ⟨t2, rfl⟩ := r'
  simp only [eqD]
  exact SeqAt.RcAt.bool_str _ _ _
 | .bl _, .tup es, v, w, u, t, h, h', r, r', hu => by
  simp only [Rep] at h
  subst h
  cases r
  obtain ⟨a2, xs2, rfl, _, _, its2, _, p2⟩ := I.repT h'
  cases r'
  simp only [eqD]
  exact SeqAt.RcAt.bool_tuple _ p2 (by omega)
 | .bl _, .lst es, v, w, u, t, h, h', r, r', hu => by
  simp only [Rep] at h
  subst h
  cases r
  obtain ⟨a2, xs2, rfl, _, _, its2, _, p2⟩ := I.repL h'
  cases r'
  simp only [eqD]
  exact SeqAt.RcAt.bool_list _ p2 (by omega)
 | .int _, .non, v, w, u, t, h, h', r, r', hu => by
  simp only [Rep] at h
  subst h
  obtain ⟨t1, rfl⟩ := r
  simp only [Rep] at h'
  subst h'
  cases r'
  simp only [eqD]
  exact SeqAt.RcAt.int_none _ _
 | .int _, .bl _, v, w, u, t, h, h', r, r', hu => by
  simp only [Rep] at h
  subst h
  obtain ⟨t1, rfl⟩ := r
  simp only [Rep] at h'
  subst h'
  cases r'
  simp only [eqD]
  exact SeqAt.RcAt.int_bool _ _ _
 | .int _, .int _, v, w, u, t, h, h', r, r', hu => by
  simp only [Rep] at h
  subst h
  obtain ⟨t1, rfl⟩ := r
  simp only [Rep] at h'
  subst h'
  obtain ⟨t2, rfl⟩ := r'
  simp only [eqD]
  exact SeqAt.RcAt.int_int _ _ _ _
 | .int _, .str lb, v, w, u, t, h, h', r, r', hu => by
  simp only [Rep] at h
  subst h
  obtain ⟨t1, rfl⟩ := r
  simp only [Rep] at h'
  subst h'
  obtain ⟨t2, rfl⟩ := r'
  simp only [eqD]
  exact SeqAt.RcAt.int_str _ _ _ _
 | .int _, .tup es, v, w, u, t, h, h', r, r', hu => by
  simp only [Rep] at h
  subst h
  obtain ⟨t1, rfl⟩ := r
  obtain ⟨a2, xs2, rfl, _, _, its2, _, p2⟩ := I.repT h'
  cases r'
  simp only [eqD]
  exact SeqAt.RcAt.int_tuple _ _ p2 (by omega)
 | .int _, .lst es, v, w, u, t, h, h', r, r', hu => by
  simp only [Rep] at h
  subst h
  obtain ⟨t1, rfl⟩ := r
  obtain ⟨a2, xs2, rfl, _, _, its2, _, p2⟩ := I.repL h'
  cases r'
  simp only [eqD]
  exact SeqAt.RcAt.int_list _ _ p2 (by omega)
 | .str la, .non, v, w, u, t, h, h', r, r', hu => by
  simp only [Rep] at h
  subst h
  obtain ⟨t1, rfl⟩ := r
  simp only [Rep] at h'
  subst h'
  cases r'
  simp only [eqD]
  exact SeqAt.RcAt.str_none _ _
 | .str la, .bl _, v, w, u, t, h, h', r, r', hu => by
  simp only [Rep] at h
  subst h
  obtain ⟨t1, rfl⟩ := r
  simp only [Rep] at h'
  subst h'
  cases r'
  simp only [eqD]
  exact SeqAt.RcAt.str_bool _ _ _
 | .str la, .int _, v, w, u, t, h, h', r, r', hu => by
  simp only [Rep] at h
  subst h
  obtain ⟨t1, rfl⟩ := r
  simp only [Rep] at h'
  subst h'
  obtain ⟨t2, rfl⟩ := r'
  simp only [eqD]
  exact SeqAt.RcAt.str_int _ _ _ _
 | .str la, .str lb, v, w, u, t, h, h', r, r', hu => by
  simp only [Rep] at h
  subst h
  obtain ⟨t1, rfl⟩ := r
  simp only [Rep] at h'
  subst h'
  obtain ⟨t2, rfl⟩ := r'
  have z := SeqAt.RcAt.str_str (A := A) (s := s) ⟨la.toArray⟩ t1 ⟨lb.toArray⟩ t2
  rw [str_beqS] at z
  simpa only [eqD] using z
 | .str la, .tup es, v, w, u, t, h, h', r, r', hu => by
  simp only [Rep] at h
  subst h
  obtain ⟨t1, rfl⟩ := r
  obtain ⟨a2, xs2, rfl, _, _, its2, _, p2⟩ := I.repT h'
  cases r'
  simp only [eqD]
  exact SeqAt.RcAt.str_tuple _ _ p2 (by omega)
 | .str la, .lst es, v, w, u, t, h, h', r, r', hu => by
  simp only [Rep] at h
  subst h
  obtain ⟨t1, rfl⟩ := r
  obtain ⟨a2, xs2, rfl, _, _, its2, _, p2⟩ := I.repL h'
  cases r'
  simp only [eqD]
  exact SeqAt.RcAt.str_list _ _ p2 (by omega)
 | .tup ds, .non, v, w, u, t, h, h', r, r', hu => by
  obtain ⟨a1, xs1, rfl, _, _, its1, _, p1⟩ := I.repT h
  cases r
  simp only [Rep] at h'
  subst h'
  cases r'
  simp only [eqD]
  exact SeqAt.RcAt.tuple_none  p1 (by omega)
 | .tup ds, .bl _, v, w, u, t, h, h', r, r', hu => by
  obtain ⟨a1, xs1, rfl, _, _, its1, _, p1⟩ := I.repT h
  cases r
  simp only [Rep] at h'
  subst h'
  cases r'
  simp only [eqD]
  exact SeqAt.RcAt.tuple_bool _ p1 (by omega)
 | .tup ds, .int _, v, w, u, t, h, h', r, r', hu => by
  obtain ⟨a1, xs1, rfl, _, _, its1, _, p1⟩ := I.repT h
  cases r
  simp only [Rep] at h'
  subst h'
  obtain ⟨t2, rfl⟩ := r'
  simp only [eqD]
  exact SeqAt.RcAt.tuple_int _ _ p1 (by omega)
 | .tup ds, .str lb, v, w, u, t, h, h', r, r', hu => by
  obtain ⟨a1, xs1, rfl, _, _, its1, _, p1⟩ := I.repT h
  cases r
  simp only [Rep] at h'
  subst h'
  obtain ⟨t2, rfl⟩ := r'
  simp only [eqD]
  exact SeqAt.RcAt.tuple_str _ _ p1 (by omega)
 | .tup ds, .lst es, v, w, u, t, h, h', r, r', hu => by
  obtain ⟨a1, xs1, rfl, _, _, its1, _, p1⟩ := I.repT h
  cases r
  obtain ⟨a2, xs2, rfl, _, _, its2, _, p2⟩ := I.repL h'
  cases r'
  simp only [eqD]
  exact SeqAt.RcAt.tuple_list  p1 p2 (by omega)
 | .lst ds, .non, v, w, u, t, h, h', r, r', hu => by
  obtain ⟨a1, xs1, rfl, _, _, its1, _, p1⟩ := I.repL h
  cases r
  simp only [Rep] at h'
  subst h'
  cases r'
  simp only [eqD]
  exact SeqAt.RcAt.list_none  p1 (by omega)
 | .lst ds, .bl _, v, w, u, t, h, h', r, r', hu => by
  obtain ⟨a1, xs1, rfl, _, _, its1, _, p1⟩ := I.repL h
  cases r
  simp only [Rep] at h'
  subst h'
  cases r'
  simp only [eqD]
  exact SeqAt.RcAt.list_bool _ p1 (by omega)
 | .lst ds, .int _, v, w, u, t, h, h', r, r', hu => by
  obtain ⟨a1, xs1, rfl, _, _, its1, _, p1⟩ := I.repL h
  cases r
  simp only [Rep] at h'
  subst h'
  obtain ⟨t2, rfl⟩ := r'
  simp only [eqD]
  exact SeqAt.RcAt.list_int _ _ p1 (by omega)
 | .lst ds, .str lb, v, w, u, t, h, h', r, r', hu => by
  obtain ⟨a1, xs1, rfl, _, _, its1, _, p1⟩ := I.repL h
  cases r
  simp only [Rep] at h'
  subst h'
  obtain ⟨t2, rfl⟩ := r'
  simp only [eqD]
  exact SeqAt.RcAt.list_str _ _ p1 (by omega)
 | .lst ds, .tup es, v, w, u, t, h, h', r, r', hu => by
  obtain ⟨a1, xs1, rfl, _, _, its1, _, p1⟩ := I.repL h
  cases r
  obtain ⟨a2, xs2, rfl, _, _, its2, _, p2⟩ := I.repT h'
  cases r'
  simp only [eqD]
  exact SeqAt.RcAt.list_tuple  p1 p2 (by omega)
 | .lst ds, .lst es, v, w, u, t, h, h', r, r', hu => by
  obtain ⟨a1, xs1, rfl, s1, q1, its1, v1, p1⟩ := I.repL h
  obtain ⟨a2, xs2, rfl, s2, q2, its2, v2, p2⟩ := I.repL h'
  cases r
  cases r'
  exact lists_rc A I q1 q2 v1 v2 p1 p2 (by omega) fun d hd e v w u t hv hw rv rw' => eqAt_rep (A := A.in1) I d e v w u t hv hw rv rw' (by
    have := dep_mem hd
    simp only [dep] at hu
    show A.units + 1 + dep d < cLine
    omega)
 | .tup ds, .tup es, v, w, u, t, h, h', r, r', hu => by
  obtain ⟨a1, xs1, rfl, s1, q1, its1, v1, p1⟩ := I.repT h
  obtain ⟨a2, xs2, rfl, s2, q2, its2, v2, p2⟩ := I.repT h'
  cases r
  cases r'
  exact tuples_rc A I q1 q2 v1 v2 p1 p2 (by omega) fun d hd e v w u t hv hw rv rw' => eqAt_rep (A := A.in1) I d e v w u t hv hw rv rw' (by
    have := dep_mem hd
    simp only [dep] at hu
    show A.units + 1 + dep d < cLine
    omega)
theorem neAt_rep {A : Around} (I : Inv X pins σ H s) : ∀ (d e : Dt) (v w : V) (u t : Value), Rep X.K H d v → Rep X.K H e w → RelV v u → RelV w t → A.units + dep d < cLine → SeqAt.RcNeAt A s u t (!eqD d e)
 | .non, .non, v, w, u, t, h, h', r, r', hu => by
  simp only [Rep] at h
  subst h
  cases r
  simp only [Rep] at h'
  subst h'
  cases r'
  simp only [eqD]
  exact SeqAt.RcNeAt.none_none
 | .non, .bl _, v, w, u, t, h, h', r, r', hu => by
  simp only [Rep] at h
  subst h
  cases r
  simp only [Rep] at h'
  subst h'
  cases r'
  simp only [eqD]
  exact SeqAt.RcNeAt.none_bool _
 | .non, .int _, v, w, u, t, h, h', r, r', hu => by
  simp only [Rep] at h
  subst h
  cases r
  simp only [Rep] at h'
  subst h'
  obtain ⟨t2, rfl⟩ := r'
  simp only [eqD]
  exact SeqAt.RcNeAt.none_int _ _
 | .non, .str lb, v, w, u, t, h, h', r, r', hu => by
  simp only [Rep] at h
  subst h
  cases r
  simp only [Rep] at h'
  subst h'
  obtain ⟨t2, rfl⟩ := r'
  simp only [eqD]
  exact SeqAt.RcNeAt.none_str _ _
 | .non, .tup es, v, w, u, t, h, h', r, r', hu => by
  simp only [Rep] at h
  subst h
  cases r
  obtain ⟨a2, xs2, rfl, _, _, its2, _, p2⟩ := I.repT h'
  cases r'
  simp only [eqD]
  exact SeqAt.RcNeAt.none_tuple  p2 (by omega)
 | .non, .lst es, v, w, u, t, h, h', r, r', hu => by
  simp only [Rep] at h
  subst h
  cases r
  obtain ⟨a2, xs2, rfl, _, _, its2, _, p2⟩ := I.repL h'
  cases r'
  simp only [eqD]
  exact SeqAt.RcNeAt.none_list  p2 (by omega)
 | .bl _, .non, v, w, u, t, h, h', r, r', hu => by
  simp only [Rep] at h
  subst h
  cases r
  simp only [Rep] at h'
  subst h'
  cases r'
  simp only [eqD]
  exact SeqAt.RcNeAt.bool_none _
 | .bl _, .bl _, v, w, u, t, h, h', r, r', hu => by
  simp only [Rep] at h
  subst h
  cases r
  simp only [Rep] at h'
  subst h'
  cases r'
  simp only [eqD]
  exact SeqAt.RcNeAt.bool_bool _ _
 | .bl _, .int _, v, w, u, t, h, h', r, r', hu => by
  simp only [Rep] at h
  subst h
  cases r
  simp only [Rep] at h'
  subst h'
  obtain ⟨t2, rfl⟩ := r'
  simp only [eqD]
  exact SeqAt.RcNeAt.bool_int _ _ _
 | .bl _, .str lb, v, w, u, t, h, h', r, r', hu => by
  simp only [Rep] at h
  subst h
  cases r
  simp only [Rep] at h'
  subst h'
  obtain ⟨t2, rfl⟩ := r'
  simp only [eqD]
  exact SeqAt.RcNeAt.bool_str _ _ _
 | .bl _, .tup es, v, w, u, t, h, h', r, r', hu => by
  simp only [Rep] at h
  subst h
  cases r
  obtain ⟨a2, xs2, rfl, _, _, its2, _, p2⟩ := I.repT h'
  cases r'
  simp only [eqD]
  exact SeqAt.RcNeAt.bool_tuple _ p2 (by omega)
 | .bl _, .lst es, v, w, u, t, h, h', r, r', hu => by
  simp only [Rep] at h
  subst h
  cases r
  obtain ⟨a2, xs2, rfl, _, _, its2, _, p2⟩ := I.repL h'
  cases r'
  simp only [eqD]
  exact SeqAt.RcNeAt.bool_list _ p2 (by omega)
 | .int _, .non, v, w, u, t, h, h', r, r', hu => by
  simp only [Rep] at h
  subst h
  obtain ⟨t1, rfl⟩ := r
  simp only [Rep] at h'
  subst h'
  cases r'
  simp only [eqD]
  exact SeqAt.RcNeAt.int_none _ _
 | .int _, .bl _, v, w, u, t, h, h', r, r', hu => by
  simp only [Rep] at h
  subst h
  obtain ⟨t1, rfl⟩ := r
  simp only [Rep] at h'
  subst h'
  cases r'
  simp only [eqD]
  exact SeqAt.RcNeAt.int_bool _ _ _
 | .int _, .int _, v, w, u, t, h, h', r, r', hu => by
  simp only [Rep] at h
  subst h
  obtain ⟨t1, rfl⟩ := r
  simp only [Rep] at h'
  subst h'
  obtain ⟨t2, rfl⟩ := r'
  simp only [eqD]
  exact SeqAt.RcNeAt.int_int _ _ _ _
 | .int _, .str lb, v, w, u, t, h, h', r, r', hu => by
  simp only [Rep] at h
  subst h
  obtain ⟨t1, rfl⟩ := r
  simp only [Rep] at h'
  subst h'
  obtain ⟨t2, rfl⟩ := r'
  simp only [eqD]
  exact SeqAt.RcNeAt.int_str _ _ _ _
 | .int _, .tup es, v, w, u, t, h, h', r, r', hu => by
  simp only [Rep] at h
  subst h
  obtain ⟨t1, rfl⟩ := r
  obtain ⟨a2, xs2, rfl, _, _, its2, _, p2⟩ := I.repT h'
  cases r'
  simp only [eqD]
  exact SeqAt.RcNeAt.int_tuple _ _ p2 (by omega)
 | .int _, .lst es, v, w, u, t, h, h', r, r', hu => by
  simp only [Rep] at h
  subst h
  obtain ⟨t1, rfl⟩ := r
  obtain ⟨a2, xs2, rfl, _, _, its2, _, p2⟩ := I.repL h'
  cases r'
  simp only [eqD]
  exact SeqAt.RcNeAt.int_list _ _ p2 (by omega)
 | .str la, .non, v, w, u, t, h, h', r, r', hu => by
  simp only [Rep] at h
  subst h
  obtain ⟨t1, rfl⟩ := r
  simp only [Rep] at h'
  subst h'
  cases r'
  simp only [eqD]
  exact SeqAt.RcNeAt.str_none _ _
 | .str la, .bl _, v, w, u, t, h, h', r, r', hu => by
  simp only [Rep] at h
  subst h
  obtain ⟨t1, rfl⟩ := r
  simp only [Rep] at h'
  subst h'
  cases r'
  simp only [eqD]
  exact SeqAt.RcNeAt.str_bool _ _ _
 | .str la, .int _, v, w, u, t, h, h', r, r', hu => by
  simp only [Rep] at h
  subst h
  obtain ⟨t1, rfl⟩ := r
  simp only [Rep] at h'
  subst h'
  obtain ⟨t2, rfl⟩ := r'
  simp only [eqD]
  exact SeqAt.RcNeAt.str_int _ _ _ _
 | .str la, .str lb, v, w, u, t, h, h', r, r', hu => by
  simp only [Rep] at h
  subst h
  obtain ⟨t1, rfl⟩ := r
  simp only [Rep] at h'
  subst h'
  obtain ⟨t2, rfl⟩ := r'
  have z := SeqAt.RcNeAt.str_str (A := A) (s := s) ⟨la.toArray⟩ t1 ⟨lb.toArray⟩ t2
  rw [str_beqS] at z
  simpa only [eqD] using z
 | .str la, .tup es, v, w, u, t, h, h', r, r', hu => by
  simp only [Rep] at h
  subst h
  obtain ⟨t1, rfl⟩ := r
  obtain ⟨a2, xs2, rfl, _, _, its2, _, p2⟩ := I.repT h'
  cases r'
  simp only [eqD]
  exact SeqAt.RcNeAt.str_tuple _ _ p2 (by omega)
 | .str la, .lst es, v, w, u, t, h, h', r, r', hu => by
  simp only [Rep] at h
  subst h
  obtain ⟨t1, rfl⟩ := r
  obtain ⟨a2, xs2, rfl, _, _, its2, _, p2⟩ := I.repL h'
  cases r'
  simp only [eqD]
  exact SeqAt.RcNeAt.str_list _ _ p2 (by omega)
 | .tup ds, .non, v, w, u, t, h, h', r, r', hu => by
  obtain ⟨a1, xs1, rfl, _, _, its1, _, p1⟩ := I.repT h
  cases r
  simp only [Rep] at h'
  subst h'
  cases r'
  simp only [eqD]
  exact SeqAt.RcNeAt.tuple_none  p1 (by omega)
 | .tup ds, .bl _, v, w, u, t, h, h', r, r', hu => by
  obtain ⟨a1, xs1, rfl, _, _, its1, _, p1⟩ := I.repT h
  cases r
  simp only [Rep] at h'
  subst h'
  cases r'
  simp only [eqD]
  exact SeqAt.RcNeAt.tuple_bool _ p1 (by omega)
 | .tup ds, .int _, v, w, u, t, h, h', r, r', hu => by
  obtain ⟨a1, xs1, rfl, _, _, its1, _, p1⟩ := I.repT h
  cases r
  simp only [Rep] at h'
  subst h'
  obtain ⟨t2, rfl⟩ := r'
  simp only [eqD]
  exact SeqAt.RcNeAt.tuple_int _ _ p1 (by omega)
 | .tup ds, .str lb, v, w, u, t, h, h', r, r', hu => by
  obtain ⟨a1, xs1, rfl, _, _, its1, _, p1⟩ := I.repT h
  cases r
  simp only [Rep] at h'
  subst h'
  obtain ⟨t2, rfl⟩ := r'
  simp only [eqD]
  exact SeqAt.RcNeAt.tuple_str _ _ p1 (by omega)
 | .tup ds, .lst es, v, w, u, t, h, h', r, r', hu => by
  obtain ⟨a1, xs1, rfl, _, _, its1, _, p1⟩ := I.repT h
  cases r
  obtain ⟨a2, xs2, rfl, _, _, its2, _, p2⟩ := I.repL h'
  cases r'
  simp only [eqD]
  exact SeqAt.RcNeAt.tuple_list  p1 p2 (by omega)
 | .lst ds, .non, v, w, u, t, h, h', r, r', hu => by
  obtain ⟨a1, xs1, rfl, _, _, its1, _, p1⟩ := I.repL h
  cases r
  simp only [Rep] at h'
  subst h'
  cases r'
  simp only [eqD]
  exact SeqAt.RcNeAt.list_none  p1 (by omega)
 | .lst ds, .bl _, v, w, u, t, h, h', r, r', hu => by
  obtain ⟨a1, xs1, rfl, _, _, its1, _, p1⟩ := I.repL h
  cases r
  simp only [Rep] at h'
  subst h'
  cases r'
  simp only [eqD]
  exact SeqAt.RcNeAt.list_bool _ p1 (by omega)
 | .lst ds, .int _, v, w, u, t, h, h', r, r', hu => by
  obtain ⟨a1, xs1, rfl, _, _, its1, _, p1⟩ := I.repL h
  cases r
  simp only [Rep] at h'
  subst h'
  obtain ⟨t2, rfl⟩ := r'
  simp only [eqD]
  exact SeqAt.RcNeAt.list_int _ _ p1 (by omega)
 | .lst ds, .str lb, v, w, u, t, h, h', r, r', hu => by
  obtain ⟨a1, xs1, rfl, _, _, its1, _, p1⟩ := I.repL h
  cases r
  simp only [Rep] at h'
  subst h'
  obtain ⟨t2, rfl⟩ := r'
  simp only [eqD]
  exact SeqAt.RcNeAt.list_str _ _ p1 (by omega)
 | .lst ds, .tup es, v, w, u, t, h, h', r, r', hu => by
  obtain ⟨a1, xs1, rfl, _, _, its1, _, p1⟩ := I.repL h
  cases r
  obtain ⟨a2, xs2, rfl, _, _, its2, _, p2⟩ := I.repT h'
  cases r'
  simp only [eqD]
  exact SeqAt.RcNeAt.list_tuple  p1 p2 (by omega)
 | .lst ds, .lst es, v, w, u, t, h, h', r, r', hu => by
  obtain ⟨a1, xs1, rfl, s1, q1, its1, v1, p1⟩ := I.repL h
  obtain ⟨a2, xs2, rfl, s2, q2, its2, v2, p2⟩ := I.repL h'
  cases r
  cases r'
  exact lists_ne A I q1 q2 v1 v2 p1 p2 (by omega) fun d hd e v w u t hv hw rv rw' => eqAt_rep (A := A.in1) I d e v w u t hv hw rv rw' (by
    have := dep_mem hd
    simp only [dep] at hu
    show A.units + 1 + dep d < cLine
    omega)
 | .tup ds, .tup es, v, w, u, t, h, h', r, r', hu => by
  obtain ⟨a1, xs1, rfl, s1, q1, its1, v1, p1⟩ := I.repT h
  obtain ⟨a2, xs2, rfl, s2, q2, its2, v2, p2⟩ := I.repT h'
  cases r
  cases r'
  exact tuples_ne A I q1 q2 v1 v2 p1 p2 (by omega) fun d hd e v w u t hv hw rv rw' => eqAt_rep (A := A.in1) I d e v w u t hv hw rv rw' (by
    have := dep_mem hd
    simp only [dep] at hu
    show A.units + 1 + dep d < cLine
    omega)
end
section
variable {X : Cx}
def rEqD (K : PySem.W.Frag) : R2 := fun x y H Q => ∃ d e, Rep K H d x ∧ Rep K H e y ∧ dep d ≤ 50 ∧ Q (.bl (eqD d e)) H
def rNeD (K : PySem.W.Frag) : R2 := fun x y H Q => ∃ d e, Rep K H d x ∧ Rep K H e y ∧ dep d ≤ 50 ∧ Q (.bl (!eqD d e)) H
theorem op_eqD (hu : X.A.units + 50 < cLine) : OpR X (compareOp .Eq) (rEqD X.K) := by
 intro pins s σ H x y v u Q I rx ry ⟨d, e, hd, he, hp, q⟩
 exact rcAt_rep I d e x y v u hd he rx ry (by omega) X.prog X.w X.xe _ (fun ht => ⟨.bl _, H, I, rfl, q⟩)
theorem op_neD (hu : X.A.units + 50 < cLine) : OpR X (compareOp .NotEq) (rNeD X.K) := by
 intro pins s σ H x y v u Q I rx ry ⟨d, e, hd, he, hp, q⟩
 exact neAt_rep I d e x y v u hd he rx ry (by omega) X.prog X.w X.xe _ (fun ht => ⟨.bl _, H, I, rfl, q⟩)
theorem hu50 {A : Around} {k : Nat} (hr : Room k A) : A.units + 50 < cLine := by have := hr.un; omega
end
def cellZ (ns : List Int) (k : Int) : Int :=
 if k < ns.length then ns.getD k.toNat 0 else if ns = [] then 0 else ns.getD (k % (ns.length : Int)).toNat 0 * 31 + k
def drawnZ (ns : List Int) (k : Int) : Int := (cellZ ns k + 6151 * (k + 1)) * 40692 % 2147483399
def pickZ (ns : List Int) (k many : Int) : Int := (drawnZ ns k * drawnZ ns k + drawnZ ns k / 31) % 2147483629 % many
theorem pickZ_lo (ns : List Int) (k : Int) {many : Int} (h : 0 < many) : 0 ≤ pickZ ns k many := Int.emod_nonneg _ (by omega)
theorem pickZ_hi (ns : List Int) (k : Int) {many : Int} (h : 0 < many) : pickZ ns k many < many := Int.emod_lt_of_pos _ h
def signZ (ns : List Int) (k : Int) (sg : List Nat) : Nat := sg.getD (pickZ ns k sg.length).toNat 0
theorem signZ_at (ns : List Int) (k : Int) {sg : List Nat} (h : sg ≠ []) : atI sg (pickZ ns k sg.length) = some (signZ ns k sg) := by
 have hp : 0 < (sg.length : Int) := by
  have := List.length_pos_iff.mpr h
  omega
 have h1 := pickZ_lo ns k hp
 have h2 := pickZ_hi ns k hp
 have hlt : (pickZ ns k sg.length).toNat < sg.length := by omega
 have e : pickZ ns k sg.length = ((pickZ ns k sg.length).toNat : Int) := by omega
 rw [e]
 refine atI_nat ?_
 unfold signZ
 rw [List.getD_eq_getElem?_getD, List.getElem?_eq_getElem hlt, Option.getD_some]
def waveN (ns : List Int) (a : Int) (sg : List Nat) : Nat → List Nat
 | 0 => [signZ ns a sg]
 | k + 1 => if pickZ ns (a + 2 * ((k : Int) + 1)) 2 = 0 then waveN ns a sg k ++ [(waveN ns a sg k).getLastD 0] else waveN ns a sg k ++ [signZ ns (a + 2 * ((k : Int) + 1) + 1) sg]
def waveL (ns : List Int) (a many : Int) (sg : List Nat) : List Nat := waveN ns a sg (many - 1).toNat
theorem waveN_length (ns : List Int) (a : Int) (sg : List Nat) : ∀ k, (waveN ns a sg k).length = k + 1
 | 0 => rfl
 | k + 1 => by
  unfold waveN
  split <;> simp [waveN_length ns a sg k]
section
variable (K : PySem.W.Frag)
abbrev Scr (H : Hp) (a : Addr) (ns : List Int) : Prop := SqL K H a (ns.map V.int) ∧ ns.length ≤ 63
end
theorem Same.upd {H : Hp} {a : Addr} {o : HO} (h : H a = none) : Same H (L2.upd H a o) := fun b u e => by rw [upd_ne (ne_of_none e h)]; exact e
theorem Scr.mono {K : PySem.W.Frag} {H H' : Hp} {a : Addr} {ns : List Int} (h : Scr K H a ns) (e : Same H H') : Scr K H' a ns := ⟨e.seq h.1, h.2⟩
theorem big (n : Nat) (h : n ≤ 10000 := by omega) : n ≤ sizeLine := Nat.le_trans h (by decide)
theorem reps_ints {K : PySem.W.Frag} {H : Hp} : ∀ ns : List Int, Reps K H (ns.map Dt.int) (ns.map V.int)
 | [] => .nil
 | n :: ns => .cons rep_int (reps_ints ns)
theorem rep_script {K : PySem.W.Frag} {H : Hp} {a : Addr} {ns : List Int} (h : SqL K H a (ns.map V.int)) : Rep K H (.lst (ns.map Dt.int)) (.ref a) := by
 simp only [Rep]
 exact ⟨a, _, rfl, h, reps_ints ns⟩
theorem eqD_nil (ns : List Int) : eqD (.lst (ns.map Dt.int)) (.lst []) = decide (ns = []) := by
 cases ns <;> simp [eqD, eqDs]
def isStar : Expr → Bool
 | .Starred .. => true
 | _ => false
theorem starEach_cons {e : Expr} {es : List Expr} {env : Env} (h : isStar e = false) : starEach (e :: es) env = (false, eval e env) :: starEach es env := by
 cases e <;> first | rfl | exact absurd h (by simp [isStar])
theorem pax (X : Cx) (e : Expr) (es : List Expr) (te : TE) (t : TA) (h : isStar e = false) (ha : PE X e te) (hr : PA X es t) : PA X (e :: es) (tCons te t) := pa_cons ha hr (starEach_cons h)
end L2
namespace L2
open PySem PySem.Spec PyProof.Rows PySem.W
section
variable {prog : Program} {w : World} {A : Around} {E : Value → Shared → Prop} {s : Shared} {K : PySem.W.Frag} {x C : Addr} {ox : Obj}
structure ExcK (K : PySem.W.Frag) (C : Addr) : Prop where
 cls : (clsIn K C).isSome = true
 ga : findIn K (.ref C) "__getattribute__" = some (some (.builtin "BaseException.__getattribute__"))
 na : findIn K (.ref C) "__getattr__" = some none
 ca : findIn K (.ref C) "__class__" = some (some (.builtin "object.__class__"))
 get : specialIn K (.builtin "object.__class__") "__get__" = some (some (.builtin "getset_descriptor.__get__"))
 tk : takesIn K (.builtin "object.__class__") = some true
 ob : mroIn K C (.type "object") = some true
 be : mroIn K C (.type "BaseException") = some true
def ExcAt (h : Heap) (x C : Addr) : Prop := ∃ ox, h.get? x = some ox ∧ ox.cls = .ref C
theorem ExcAt.type {M : Model} {h : Heap} (I : ExcAt h x C) : Looks M h (typeOf (.ref x)) (.ref C) := by
 obtain ⟨ox, e, c⟩ := I
 exact c ▸ (Looks.ld e).andThen .now
end
theorem ObjOk.there {P : Program} {w : World} {H : Hp} {h : Heap} {a : Addr} {o : HO} (x : ObjOk P w H h a o) : ∃ ob, h.get? a = some ob := by
 cases o with
 | lst xs => obtain ⟨_, _, _, _, e⟩ := x; exact ⟨_, e⟩
 | tup xs => obtain ⟨_, _, _, ob, e, _⟩ := x; exact ⟨_, e⟩
 | dK kvs => obtain ⟨_, _, _, _, o, _, _, e, _⟩ := x; exact ⟨_, e⟩
 | dT kvs => obtain ⟨_, _, _, _, o, _, _, e, _⟩ := x; exact ⟨_, e⟩
 | set S n => obtain ⟨o, _, _, _, e, _⟩ := x; exact ⟨_, e⟩
 | ins C dx fs => obtain ⟨_, _, _, e, _⟩ := x; exact ⟨_, e⟩
 | own y => exact x
 | xd fs => obtain ⟨_, ⟨_, _, _, e, _⟩, _⟩ := x; exact ⟨_, e⟩
 | rng lo hi => obtain ⟨_, _, _, e⟩ := x; exact ⟨_, e⟩
 | frz ob u => obtain ⟨e, _⟩ := x; exact ⟨_, e⟩
 | tbl q => obtain ⟨ps, e, _⟩ := x; exact ⟨_, e⟩
 | met f y => exact ⟨_, (show h.get? a = some _ from x)⟩
 | ext φ => exact x.2.1
def CX1 (P : Program) (w : World) : CXT := fun outer H s E e s' =>
 ∃ (ea C : Addr) (H' : Hp) (B : Heap) (a0 : Value), e = .ref ea ∧ s'.os = s.os ∧ AllBare s'.gens ∧ Heap.FlyingW B outer ea (.ref C) a0 s'.heap ∧ HOk P w H' B ∧ Un (frs outer) [] H H' s.heap s'.heap ∧
  (∀ b o, s.heap.get? b = some o → H b = none → b ∉ frs outer → B.get? b = some o) ∧ (∀ b o, s.heap.get? b = some o → b ∉ frs outer → ∃ o', B.get? b = some o') ∧ H' ea = none ∧ E (.ref C) none H'
structure Rz (X : Cx) (E : XK) : Prop where
 made : ∀ (pins : List (Addr × Obj)) (σ : St) (H : Hp) (s : Shared) (h' : Heap) (e C : Addr) (vs : List Value), Inv X pins σ H s → Heap.MadeExcOf s.heap h' e (.ref C) vs → E (.ref C) none H → X.xe (.ref e) { s with heap := h' }
 pass : Passes (CX1 X.prog X.w) X E
section
variable {P : Program} {w : World} {K : PySem.W.Frag} {mg : Str → Option Value} {base : Heap} {N : List Str} {qual : Str} {scope : Scope} {f : Addr} {cd : Value} {A : Around} {outer : List Env} {s₀ : Shared} {H₀ : Hp} {E : XK}
theorem rz_of : Rz (cxOf (CX1 P w) P w K mg base N qual scope f cd A outer s₀ H₀ E) E where
 made := by
  intro pins σ H s h' e C vs I hx hE
  have hfr := I.ok.frames
  have hF := I.stack
  have hin : ∀ env ∈ (cxOf (CX1 P w) P w K mg base N qual scope f cd A outer s₀ H₀ E).stack, ∀ b, env.frame = some b → b ∈ frs (cxOf (CX1 P w) P w K mg base N qual scope f cd A outer s₀ H₀ E).stack := fun env he b hb => List.mem_filterMap.mpr ⟨env, he, hb⟩
  refine wpAny_leaves_madeW (base := hideAll s.heap (frs (cxOf (CX1 P w) P w K mg base N qual scope f cd A outer s₀ H₀ E).stack)) (h := s.heap) hfr rfl (fun b o q => of_hideAll _ q) (funFrames_hide hF hin) hx fun h'' t fl _ _ up => ?_
  have inB : ∀ b o, s.heap.get? b = some o → b ∉ frs (cxOf (CX1 P w) P w K mg base N qual scope f cd A outer s₀ H₀ E).stack → (hideAll s.heap (frs (cxOf (CX1 P w) P w K mg base N qual scope f cd A outer s₀ H₀ E).stack)).get? b = some o := fun b o q hb => hideAll_get _ q hb
  have old : ∀ b o, s₀.heap.get? b = some o → b ∉ frs outer → b ∉ frs (cxOf (CX1 P w) P w K mg base N qual scope f cd A outer s₀ H₀ E).stack := fun b o q hb z => by
   rcases List.mem_cons.mp (I.stkSub b z) with e | e
   ·exact absurd (Heap.lt_size q) (by have := I.ok.above; rw [e]; exact Nat.not_lt.mpr this)
   ·exact hb e
  have noex : ∀ b : Addr, b ∉ (cxOf (CX1 P w) P w K mg base N qual scope f cd A outer s₀ H₀ E).ex := fun b z => nomatch z
  have keepX : ∀ b o, s₀.heap.get? b = some o → H₀ b = none → b ∉ frs outer → (hideAll s.heap (frs (cxOf (CX1 P w) P w K mg base N qual scope f cd A outer s₀ H₀ E).stack)).get? b = some o := fun b o q n hb => inB b o (I.base.keep b o q n hb (noex b)) (old b o q hb)
  have thereX : ∀ b o, s₀.heap.get? b = some o → b ∉ frs outer → ∃ o', (hideAll s.heap (frs (cxOf (CX1 P w) P w K mg base N qual scope f cd A outer s₀ H₀ E).stack)).get? b = some o' := fun b o q hb => by
   obtain ⟨o', q'⟩ := I.base.there b o q (noex b)
   exact ⟨o', inB b o' q' (old b o q hb)⟩
  have slotX : ∀ b o, s₀.heap.get? b = some o → H₀ b = none → b ∈ frs outer → ∃ sl, h''.get? b = some { o with slots := sl } := fun b o q n hb => by
   obtain ⟨sl, q'⟩ := I.base.slot b o q n hb (noex b)
   obtain ⟨_, o2, q2, nf⟩ := I.ok.funs.mem hb
   have q2' : s₀.heap.get? b = some o2 := q2
   rw [q] at q2'
   cases q2'
   obtain ⟨sl', q3⟩ := up b _ (hx.keeps b _ q') (by intro vs z; exact nf vs z)
   exact ⟨sl', q3⟩
  refine ⟨e, C, H, _, _, rfl, I.os, I.bare, fl, fun a o q => ?_, ⟨fun b o q n hb _ => fl.1 b o (keepX b o q n hb), fun b o q n hb _ => slotX b o q n hb, fun b o q n _ => I.base.free b o q n (noex b), fun b o q _ => ?_, I.base.tups, I.base.frzs, I.base.tbls⟩, keepX, thereX, ?_, hE⟩
  ·have na : ∀ b u, H b = some u → b ∉ frs (cxOf (CX1 P w) P w K mg base N qual scope f cd A outer s₀ H₀ E).stack := fun b u q z => by
    have := I.stkFree b z
    rw [q] at this
    cases this
   refine (I.hok a o q).stay (fun c u hc r => inB c u r ?_) (fun _ z => z) fun _ _ z => z
   rcases hc with rfl | hc
   ·exact na _ _ q
   ·exact na _ _ hc
  ·by_cases hb : b ∈ frs outer
   ·have hn : H₀ b = none := I.ok.frf b hb
    obtain ⟨sl, q'⟩ := slotX b o q hn hb
    exact ⟨_, q'⟩
   ·obtain ⟨o', q'⟩ := thereX b o q hb
    exact ⟨o', fl.1 b o' q'⟩
  ·cases q : H e with
   | none => rfl
   | some u =>
    obtain ⟨ob, z⟩ := (I.hok e u q).there
    rw [hx.new] at z
    cases z
 pass := by
  intro pins σ H s e s' I hc
  obtain ⟨ea, C, H', B, a0, rfl, hos, hb, fl, hok, un, keepB, thereB, hea, hE⟩ := hc
  have hfr := I.ok.frames
  refine wpAny_leaves_onW hfr rfl fl fun h'' fl' up => ?_
  have old : ∀ b o, s₀.heap.get? b = some o → b ∉ frs outer → b ∉ frs (cxOf (CX1 P w) P w K mg base N qual scope f cd A outer s₀ H₀ E).stack := fun b o q hb z => by
   rcases List.mem_cons.mp (I.stkSub b z) with e | e
   ·exact absurd (Heap.lt_size q) (by have := I.ok.above; rw [e]; exact Nat.not_lt.mpr this)
   ·exact hb e
  have noex : ∀ b : Addr, b ∉ (cxOf (CX1 P w) P w K mg base N qual scope f cd A outer s₀ H₀ E).ex := fun b z => nomatch z
  have keepX : ∀ b o, s₀.heap.get? b = some o → H₀ b = none → b ∉ frs outer → B.get? b = some o := fun b o q n hb => keepB b o (I.base.keep b o q n hb (noex b)) (I.base.free b o q n (noex b)) (old b o q hb)
  have thereX : ∀ b o, s₀.heap.get? b = some o → b ∉ frs outer → ∃ o', B.get? b = some o' := fun b o q hb => by
   obtain ⟨o', q'⟩ := I.base.there b o q (noex b)
   exact thereB b o' q' (old b o q hb)
  have sub : ∀ b, b ∈ frs outer → b ∈ frs (cxOf (CX1 P w) P w K mg base N qual scope f cd A outer s₀ H₀ E).stack := fun b hb => by
   show b ∈ frs (_ :: outer)
   unfold frs
   rw [List.filterMap_cons]
   split
   ·exact hb
   ·exact List.mem_cons_of_mem _ hb
  have slotX : ∀ b o, s₀.heap.get? b = some o → H₀ b = none → b ∈ frs outer → ∃ sl, h''.get? b = some { o with slots := sl } := fun b o q n hb => by
   obtain ⟨sl, q'⟩ := I.base.slot b o q n hb (noex b)
   obtain ⟨sl2, q2'⟩ := un.slot b _ q' (I.base.free b o q n (noex b)) (sub b hb) (by simp)
   obtain ⟨_, o2, q2, nf⟩ := I.ok.funs.mem hb
   have q2'' : s₀.heap.get? b = some o2 := q2
   rw [q] at q2''
   cases q2''
   obtain ⟨sl', q3⟩ := up b _ q2' (by intro vs z; exact nf vs z)
   exact ⟨sl', q3⟩
  refine ⟨ea, C, H', B, a0, rfl, hos.trans I.os, hb, fl', hok, ⟨fun b o q n hb _ => fl'.1 b o (keepX b o q n hb), fun b o q n hb _ => slotX b o q n hb, fun b o q n _ => ?_, fun b o q _ => ?_, fun b xs q => un.tups b xs (I.base.tups b xs q), fun b o u q => un.frzs b o u (I.base.frzs b o u q), fun b ps q => ?_⟩, keepX, thereX, hea, hE⟩
  ·obtain ⟨o', q'⟩ := I.base.there b o q (noex b)
   exact un.free b o' q' (I.base.free b o q n (noex b)) (by simp)
  ·by_cases hb : b ∈ frs outer
   ·have hn : H₀ b = none := I.ok.frf b hb
    obtain ⟨sl, q'⟩ := slotX b o q hn hb
    exact ⟨_, q'⟩
   ·obtain ⟨o', q'⟩ := thereX b o q hb
    exact ⟨o', fl'.1 b o' q'⟩
  ·exact un.tbls b ps (I.base.tbls b ps q)
end
section
variable {P : Program} {w : World} {K : PySem.W.Frag} {mg : Str → Option Value} {base : Heap}
theorem Fun.okX {x qual : Str} {st : Stmt} {f : Addr} {fd : FuncData} {N ps : List Str} {k : Nat} {sp : Sp} (F : Fun K x qual st f fd) (S : FnScope N ps (defScope st)) (len : ∀ vs H Q E, sp vs H Q E → vs.length = ps.length)
  (hbody : ∀ (cdv : Value) (A : Around) (outer : List Env) (s : Shared) (H : Hp) (vs : List V) (Q : VK) (E : XK), Room k (A.deeper (envOfC qual (defScope st) s.heap.objs.size f cdv)) → sp vs H Q E →
   Rz (cxOf (CX1 P w) P w K mg base N qual (defScope st) f cdv A outer s H E) E →
   ∃ t, PSs (cxOf (CX1 P w) P w K mg base N qual (defScope st) f cdv A outer s H E) (defBody st) t ∧ t { nx := fun _ H' => Q .non H', rt := Q } (start N vs) H) (hf : ps = [lawS] → (defScope st).names.lookup lawS = some .local := by first | assumption | decide +kernel) : FnOk P w K mg base (CX1 P w) (k + 1) f fd ps sp := by
 obtain ⟨oc, od, kV, doc, pm, an, cdv, ct, osl, rfl, lk, hcd⟩ := F.ex
 refine fn_of lk hcd S hf len fun A outer s H vs Q E hr hsp => ?_
 exact hbody cdv A outer s H vs Q E hr hsp rz_of
end
theorem FnOk.calm {P : Program} {w : World} {K : PySem.W.Frag} {mg : Str → Option Value} {base : Heap} {CX : CXT} {k : Nat} {f : Addr} {fd : FuncData} {ps : List Str} {sp : Sp} (F : FnOk P w K mg base CX0 k f fd ps sp) : FnOk P w K mg base CX k f fd ps sp :=
 ⟨F.len, fun A outer s H args us vs Q E hr he ht hb hv hs => codeAny_mono (F.run A outer s H args us vs Q E hr he ht hb hv hs) fun r s' q => by
  cases r with
  | error e => exact False.elim q
  | ok fl => cases fl <;> exact q⟩
abbrev veMro : List Value := [.type "ValueError", .type "Exception", .type "BaseException", .type "object"]
theorem exc_obj {K : PySem.W.Frag} {h : Heap} {C : Addr} (X : K.In h) (q : excIn K C veMro "ValueError.__new__" = true) :
  ∃ nm qn N bs bm hdct sn sub ab col dd k0 k1 k2 k3 k5 mN, h.get? C = some (excClassObj nm qn C N bs bm hdct sn sub ab col dd k0 k1 k2 k3 k5 "ValueError.__new__") ∧ h.Ns N mN ∧ mN "__init__" = none ∧ OwnTail h veMro bm := by
 unfold excIn at q
 split at q
 ·rename_i dd cd sl ho
  split at q
  ·rename_i C' bm k0 k1 k2 k3 n k5 hm hs
   simp only [Bool.and_eq_true, beq_iff_eq, Bool.not_eq_true'] at q
   obtain ⟨⟨⟨⟨⟨rfl, rfl⟩, hdel⟩, ht⟩, hok⟩, hni⟩ := q
   obtain ⟨nm, bs, mro, ns, qn, hd, sn, sub, ab, col, del⟩ := cd
   dsimp only at hm hdel hok hni
   subst hm hdel
   have hsl : sl = #[k0, k1, k2, k3, some (.builtin "ValueError.__new__"), k5] := by
    obtain ⟨l⟩ := sl
    simp only at hs
    rw [hs]
   subst hsl
   exact ⟨nm, qn, ns, bs, bm, hd, sn, sub, ab, col, dd, k0, k1, k2, k3, k5, _, X _ _ ho, .of_isNs (isNs_of_in X hok), nsMap_none_of_in X hok hni, tail_of_in X ht⟩
  ·cases q
 ·cases q
section
variable {X : Cx} {pos : Pos}
def tRaise (C : Addr) (E : XK) (te : TE) : TS := fun _ σ H => te σ H fun _ H1 => E (.ref C) none H1
theorem ps_raise {x : Str} {np cpos : Pos} {C : Addr} {E : XK} {e : Expr} {te : TE} (hc : X.calm = true) (R : Rz X E) (hg : Gl X x) (hm : X.mg x = some (.ref C)) (hK : excIn X.K C veMro "ValueError.__new__" = true) (he : PE X e te) (hst : isStar e = false := by rfl)
  (hd : (x == ("__debug__" : Str)) = false := by decide) : PS X (.Raise (some (.Call (.Name x np) [e] [] cpos)) none pos) (tRaise C E te) := by
 intro pins s σ H D I h
 obtain ⟨nm, qn, N, bs, bm, hdct, sn, sub, ab, col, dd, k0, k1, k2, k3, k5, mN, hC, hN, hni, T⟩ := exc_obj I.mod.kin hK
 have hs : starEach [e] X.env = [(false, eval e X.env)] := by rw [starEach_cons hst]; rfl
 refine wpAny_Raise_call_subT F.excBase_ValueError (C := C) (nm := nm) (q := qn) (N := N) (bs := bs) (bm := bm) (hdct := hdct) (sn := sn) (sub := sub) (ab := ab) (col := col) (dd := dd) (k0 := k0) (k1 := k1) (k2 := k2) (k3 := k3) (k5 := k5) (mN := mN)
  (T.hasType F.excBase_ValueError.hasBase) (I.ok.hd hc) (by rw [hs]; rfl) hni (ld_glob I hg hm ⟨rfl, ?_⟩ hd)
 rw [hs]
 refine Calls.evalArgs_plain (Calls.spliced_cons (thn (he pins s σ H _ I h) fun v s1 ⟨x, H1, I1, r1, q1⟩ => Calls.spliced_nil ?_))
 exact ⟨rfl, by show 1 ≤ sizeLine; decide, I1.bk _ _ hC, hN.keeps I1.bk, T.keeps I1.bk, fun h' ea hmade => R.made pins σ H1 s1 h' ea C _ I1 hmade q1⟩
theorem pe_fmtI {a : Expr} {ta : TE} (ha : PE X a ta) : PE X (.FormattedValue a (-1) none pos) (fun σ H Q => ta σ H fun x H1 => ∃ i, x = .int i ∧ i.natAbs.log2 < 1920 ∧ Q (.str (toString i)) H1) := by
 intro pins s σ H Q I h
 refine wpAny_FormattedValue_plain (thn (ha pins s σ H _ I h) fun v s1 ⟨x, H1, I1, r1, i, e, hl, q⟩ => ?_)
 subst e
 obtain ⟨t, rfl⟩ := r1
 exact wpAny_formatField_int hl (fun ht => ⟨.str (toString i), H1, I1.tok _, ⟨_, rfl⟩, q⟩)
def tBit (t : TE) (k : Hp → Prop) : St → Hp → Prop := fun σ H => t σ H fun x H1 => ∃ l : Str, x = .str l ∧ l.length ≤ 1000 ∧ k H1
theorem len_add (a b : Str) : (a ++ b).length = a.length + b.length := strLen_append a b
theorem pe_fstr3 {a b c : Expr} {ta tb tc : TE} (ha : PE X a ta) (hb : PE X b tb) (hc : PE X c tc) : PE X (.JoinedStr [a, b, c] pos) (fun σ H Q => tBit ta (fun H1 => tBit tb (fun H2 => tBit tc (fun H3 => ∀ z, Q (.str z) H3) σ H2) σ H1) σ H) := by
 intro pins s σ H Q I h
 refine wpAny_JoinedStr ?_
 have e0 : Str.empty.length = 0 := rfl
 refine thn (ha pins s σ H _ I h) fun v s1 ⟨x, H1, I1, r1, l, ex, hl, q1⟩ => ?_
 subst ex
 obtain ⟨t, rfl⟩ := r1
 refine ⟨l, t, rfl, big _ (by rw [len_add, e0]; omega), ?_⟩
 refine thn (hb pins s1 σ H1 _ I1 q1) fun v s2 ⟨y, H2, I2, r2, m, ey, hm, q2⟩ => ?_
 subst ey
 obtain ⟨t', rfl⟩ := r2
 refine ⟨m, t', rfl, big _ (by rw [len_add, len_add, e0]; omega), ?_⟩
 refine thn (hc pins s2 σ H2 _ I2 q2) fun v s3 ⟨z, H3, I3, r3, n, ez, hn, q3⟩ => ?_
 subst ez
 obtain ⟨t'', rfl⟩ := r3
 refine ⟨n, t'', rfl, big _ (by rw [len_add, len_add, len_add, e0]; omega), big _ (by rw [len_add, len_add, len_add, e0]; omega), ?_⟩
 exact (fun ht => ⟨.str _, H3, I3.tok _, ⟨_, rfl⟩, q3 _⟩)
end
theorem countP_eqU {x : V} : ∀ {xs : List V} {us : List Value}, Vals xs us → xs.all flatV = true → us.countP (eqU x) = xs.countP fun y => eqV y x
 | _, _, .nil, _ => rfl
 | y :: xs, u :: us, .cons r t, f => by
  rw [List.all_cons, Bool.and_eq_true] at f
  rw [List.countP_cons, List.countP_cons, eqU_of r f.1, countP_eqU t f.2]
theorem vals_of_get : ∀ {xs : List V} {us : List Value}, xs.length = us.length → (∀ (j : Nat) x u, xs[j]? = some x → us[j]? = some u → RelV x u) → Vals xs us
 | [], [], _, _ => .nil
 | x :: xs, u :: us, h, k => .cons (k 0 x u rfl rfl) (vals_of_get (by simpa using h) fun j y v h1 h2 => k (j + 1) y v (by simpa using h1) (by simpa using h2))
section
variable {X : Cx}
theorem glued_nil (parts : List (List Nat)) : (Txt.join ⟨([] : List Nat).toArray⟩ (parts.map fun l => (⟨l.toArray⟩ : Str))) = ⟨parts.flatten.toArray⟩ := by
 apply Str_ext
 unfold Txt.join Builtin.Str.glued
 have key : ∀ (ps : List (List Nat)) (acc : Array Nat), (ps.map fun l => (⟨l.toArray⟩ : Str)).foldl (fun acc p => acc ++ (⟨([] : List Nat).toArray⟩ : Str).cps ++ p.cps) acc = acc ++ ps.flatten.toArray := by
  intro ps
  induction ps with
  | nil => intro acc; simp
  | cons l ps ih =>
   intro acc
   rw [List.map_cons, List.foldl_cons, ih]
   simp
 cases parts with
 | nil => rfl
 | cons l ps =>
  show (((l :: ps).map fun l => (⟨l.toArray⟩ : Str)).drop 1 |>.foldl (fun acc p => acc ++ (⟨([] : List Nat).toArray⟩ : Str).cps ++ p.cps) (l.toArray)).toList = _
  rw [List.map_cons, List.drop_one, List.tail_cons, key]
  simp
theorem strsAre_of : ∀ {ls : List (List Nat)} {us : List Value}, Vals (ls.map S) us → StrsAre us (ls.map fun l => (⟨l.toArray⟩ : Str))
 | [], _, .nil => .nil
 | l :: ls, _, .cons r t => by
  obtain ⟨tk, rfl⟩ := r
  exact .cons _ tk (strsAre_of t)
theorem mt_joinS : MtR X "str.join" (fun x vs H Q => ∃ (p : Addr) (ls : List (List Nat)), x = S [] ∧ vs = [.ref p] ∧ SqL X.K H p (ls.map S) ∧ ls.flatten.length ≤ 10000 ∧ Q (S ls.flatten) H) := by
 intro pins s σ H x vs v us Q I rx rv ⟨p, ls, ex, ev, hq, hl, q⟩
 subst ex ev
 obtain ⟨t, rfl⟩ := rx
 obtain ⟨u, rfl, ru⟩ := rv.one
 cases ru
 obtain ⟨its, r, pl, hz⟩ := I.list hq
 have hs : ((ls.map fun l => (⟨l.toArray⟩ : Str)).map (·.length)).sum = ls.flatten.length := by
  rw [List.length_flatten, List.map_map]
  rfl
 refine join_list pl.isList (by simpa using strsAre_of r) ?_ fun t' k => (fun ht => ⟨S ls.flatten, H, I.tok k, ⟨t', ?_⟩, q⟩)
 ·rw [hs]
  have e0 : (⟨([] : List Nat).toArray⟩ : Str).length = 0 := rfl
  rw [e0]
  omega
 ·rw [glued_nil]
theorem call_listS (hc : X.calm = true) : CallR X (.type "list") (fun xs H Q => ∃ l, xs = [S l] ∧ l.length ≤ sizeLine ∧ ∀ p, H p = none → Q (.ref p) (upd H p (.lst (sgs l)))) := by
 intro pins s σ H xs us Q I r ⟨l, e, hl, q⟩
 subst e
 obtain ⟨u, rfl, ru⟩ := r.one
 obtain ⟨t, rfl⟩ := ru
 refine call_list_str (I.ok.hd hc) _ t (fun h' tk acc' c' hk hS hacc => ?_) (by simpa using hl)
 refine (fun ht => ⟨.ref s.heap.objs.size, upd H s.heap.objs.size (.lst (sgs l)), I.laid (t' := tk) hk (Nat.le_refl _) ?_, rfl, q _ (I.hok.fresh (Nat.le_refl _))⟩)
 obtain ⟨hsz, hit⟩ := hacc
 have hsz' : acc'.size = l.length := by simpa using hsz
 refine ⟨by rw [sgs_length]; exact hl, acc'.toList, c', vals_of_get (by rw [sgs_length]; simp [hsz']) (fun j x u h1 h2 => ?_), by simpa using hS⟩
 have h2' : acc'[j]? = some u := by simpa using h2
 obtain ⟨c, tt, e1, e2⟩ := hit j u h2'
 have e1' : l[j]? = some c := by simpa using e1
 have e3 : (sgs l)[j]? = some (S [c]) := by simp [sgs, e1']
 rw [e3] at h1
 cases h1
 exact ⟨tt, e2⟩
end
def Cal (P : Program) (w : World) (K : PySem.W.Frag) (mg : Str → Option Value) (base : Heap) (CX : CXT) (k : Nat) (x : Str) (ps : List Str) (sp : Sp) : Prop :=
 ∃ (f : Addr) (fd : FuncData), FnOk P w K mg base CX k f fd ps sp ∧ mg x = some (.ref f) ∧ PySem.W.keepIn K (.ref f) = true ∧ Binds K fd ps []
theorem Cal.calm {P : Program} {w : World} {K : PySem.W.Frag} {mg : Str → Option Value} {base : Heap} {CX : CXT} {k : Nat} {x : Str} {ps : List Str} {sp : Sp} (C : Cal P w K mg base CX0 k x ps sp) : Cal P w K mg base CX k x ps sp := by
 obtain ⟨f, fd, h1, h2⟩ := C
 exact ⟨f, fd, h1.calm, h2⟩
section
variable {X : Cx} {CX : CXT} {k : Nat} {x : Str} {ps : List Str} {sp : Sp} {E : XK} {p pos : Pos} {e : Expr} {es : List Expr} {t : TA}
theorem pe_cal (C : Cal X.prog X.w X.K X.mg X.base CX k x ps sp) (hr : Room k X.A) (hx : Passes CX X E) (ha : PA X (e :: es) t) (hst : isStar e = false := by rfl) (hg : Gl X x := by rfl) (hdb : (x == ("__debug__" : Str)) = false := by decide) (hpl : (backTo pos (starEach es X.env)).any (·.1) = false := by rfl) :
  PE X (.Call (.Name x p) (e :: es) [] pos) (tCall sp [] E t) := by
 obtain ⟨f, fd, h1, h2, h3, h4⟩ := C
 exact pe_call h1 hr hg h2 h3 h4 .nil hx ha hdb (starEach_cons hst) hpl
end
def FnT (K : PySem.W.Frag) (mg : Str → Option Value) (x : Str) (st : Stmt) (ps : List Str) : Prop := ∃ f fd, Fun K x x st f fd ∧ mg x = some (.ref f) ∧ Binds K fd ps []
theorem int_len {i : Int} (h1 : -2 ≤ i) (h2 : i ≤ 20) : (Str.ofString (toString i)).length ≤ 1000 ∧ i.natAbs.log2 < 1920 := by
 have h : i = -2 ∨ i = -1 ∨ i = 0 ∨ i = 1 ∨ i = 2 ∨ i = 3 ∨ i = 4 ∨ i = 5 ∨ i = 6 ∨ i = 7 ∨ i = 8 ∨ i = 9 ∨ i = 10 ∨ i = 11 ∨ i = 12 ∨ i = 13 ∨ i = 14 ∨ i = 15 ∨ i = 16 ∨ i = 17 ∨ i = 18 ∨ i = 19 ∨ i = 20 := by omega
 rcases h with h | h | h | h | h | h | h | h | h | h | h | h | h | h | h | h | h | h | h | h | h | h | h
 all_goals
  rw [h]
  constructor <;> decide +kernel
structure WordK (K : PySem.W.Frag) (C c0 c1 c2 c3 c4 c5 c6 : Addr) (j : Nat) : Prop where
 z : ExcK K C
 lt : j < 7
 w0 : kitOne K (.ref C) (.ref c0) = some (j == 0)
 w1 : kitOne K (.ref C) (.ref c1) = some (j == 1)
 w2 : kitOne K (.ref C) (.ref c2) = some (j == 2)
 w3 : kitOne K (.ref C) (.ref c3) = some (j == 3)
 w4 : kitOne K (.ref C) (.ref c4) = some (j == 4)
 w5 : kitOne K (.ref C) (.ref c5) = some (j == 5)
 w6 : kitOne K (.ref C) (.ref c6) = some (j == 6)
 ve : kitOne K (.ref C) (.type "ValueError") = some true
def spLaw (K : PySem.W.Frag) : Sp := fun vs H Q _ => ∃ (a : Addr) (ns : List Int), vs = [.ref a] ∧ Scr K H a ns ∧ ∀ H', Q (.bl true) H'
theorem flat_one : ∀ l : List Nat, (l.map fun c => [c]).flatten = l
 | [] => rfl
 | c :: l => by simp only [List.map_cons, List.flatten_cons, flat_one l]; rfl
theorem foldl_repS (l : List Nat) : ∀ (k : Nat) (acc : List Nat), List.foldl (fun x1 x2 => x1 ++ x2) acc.toArray (List.replicate k l.toArray) = (acc ++ (List.replicate k l).flatten).toArray
 | 0, acc => by simp
 | k + 1, acc => by
  have e : acc.toArray ++ l.toArray = (acc ++ l).toArray := by simp
  have e2 : (acc ++ l) ++ (List.replicate k l).flatten = acc ++ (List.replicate (k + 1) l).flatten := by
   rw [List.replicate_succ, List.flatten_cons, List.append_assoc]
  rw [← e2, ← foldl_repS l k (acc ++ l), ← e, List.replicate_succ, List.foldl_cons]
section
variable {X : Cx}
def rRepS : R2 := fun x y H Q => ∃ l n, x = S l ∧ y = .int n ∧ -1000 ≤ n ∧ n ≤ 1000 ∧ l.length ≤ 1000 ∧ Q (S (List.replicate n.toNat l).flatten) H
theorem op_repS : OpR X (binaryOp .Mult) rRepS := by
 intro pins s σ H x y v u Q I rx ry ⟨l, n, ex, ey, n0, n1, hl, q⟩
 subst ex ey
 obtain ⟨t, rfl⟩ := rx
 obtain ⟨t', rfl⟩ := ry
 have hlen : (⟨l.toArray⟩ : Str).length = l.length := by simp [Str.length]
 refine P.mul_str ?_ ?_ ?_ ?_
 ·rw [decide_eq_false (by omega), decide_eq_false (by omega)]
  rfl
 ·intro h1 _
  rw [hlen]
  have : (1000 : Int) ≤ (2 ^ 63 - 1) / n := by
   rw [Int.le_ediv_iff_mul_le (by omega)]
   omega
  omega
 ·intro h1 _
  rw [hlen]
  have h2 : l.length * n.toNat ≤ 1000 * 1000 := Nat.mul_le_mul hl (by omega)
  unfold Builtin.Str.tooLong
  exact decide_eq_false (by have : sizeLine = 2 ^ 24 := rfl; omega)
 ·by_cases h1 : n < 1
  ·rw [if_pos h1]
   refine ⟨by decide, fun ht => ⟨S (List.replicate n.toNat l).flatten, H, I.tok _, ⟨s.toks, ?_⟩, q⟩⟩
   have : n.toNat = 0 := by omega
   rw [this]
   rfl
  ·rw [if_neg h1]
   by_cases h2 : (n == 1 || (⟨l.toArray⟩ : Str).length == 0) = true
   ·rw [if_pos h2]
    refine (fun ht => ⟨S (List.replicate n.toNat l).flatten, H, I, ⟨t, ?_⟩, q⟩)
    have e : (List.replicate n.toNat l).flatten = l := by
     rw [hlen] at h2
     simp only [Bool.or_eq_true, beq_iff_eq] at h2
     rcases h2 with h2 | h2
     ·subst h2; simp
     ·have : l = [] := List.length_eq_zero_iff.mp h2
      subst this; simp
    rw [e]
   ·rw [if_neg h2]
    have e : (⟨(List.replicate n.toNat l.toArray).foldl (· ++ ·) #[]⟩ : Str) = ⟨(List.replicate n.toNat l).flatten.toArray⟩ := by
     have := foldl_repS l n.toNat []
     simp only [List.nil_append] at this
     exact congrArg Str.mk this
    show _ ∧ _
    rw [e]
    refine ⟨?_, fun ht => ⟨S (List.replicate n.toNat l).flatten, H, I.tok _, ⟨_, rfl⟩, q⟩⟩
    show (List.replicate n.toNat l).flatten.toArray.size ≤ sizeLine
    have h3 : n.toNat * l.length ≤ 1000 * 1000 := Nat.mul_le_mul (by omega) hl
    have : sizeLine = 2 ^ 24 := rfl
    simp
    omega
end
section
variable {X : Cx} {pins : List (Addr × Obj)} {σ : St} {H : Hp} {s : Shared}
theorem Inv.turnedT {ch : List Addr} {h' : Heap} {t' : Nat} {T : Addr} {o : HO} (I : Inv X pins σ H s) (hf : ∀ b ∈ ch, FpOk X pins H b) (k : ∀ b u, b ∉ ch → s.heap.get? b = some u → h'.get? b = some u) (hT : s.heap.objs.size ≤ T) (new : ObjOk X.prog X.w (upd H T o) h' T o) (ht : 0 < t' := by first | assumption | exact Inv.tk (by assumption)) :
  Inv X pins σ (upd H T o) { s with heap := h', toks := t' } := by
 have hn : H T = none := I.hok.fresh hT
 have nT : ∀ b u, s.heap.get? b = some u → b ≠ T := fun b u e z => absurd (Heap.lt_size e) (by rw [z]; exact Nat.not_lt.mpr hT)
 have nit : ∀ b u, H b = some u → b ∉ ch := fun b u e z => by rw [(hf b z).1] at e; cases e
 have up : ∀ b u, H b = some u → upd H T o b = some u := fun b u e => by rw [upd_ne (ne_of_none e hn)]; exact e
 refine I.step (g' := s.gens) (d' := s.drawn) (ch := ch) (fun b hb => ?_) (fun b u _ _ hc e _ => k b u hc e) (fun b u _ _ hc e _ => ⟨u.slots, k b u hc e⟩) (fun b u _ e n => by rw [upd_ne (nT b u e)]; exact n)
  (fun b u hc e => ⟨u, k b u hc e⟩) (fun b xs e => up b _ e) (fun b _ _ e => up b _ e) (fun b q e => up b _ e) (fun m hm => ?_) (fun b u e => ?_) I.bare ht
 ·obtain ⟨_, f1, _, f3, f4, f5⟩ := hf b hb
  exact ⟨f3, f1, f4, f5⟩
 ·obtain ⟨u, es, ep, ho, r⟩ := hm
  exact ⟨u, es, ep, k _ u (fun z => (hf _ z).2.1 rfl) ho, r⟩
 ·by_cases hb : b = T
  ·subst hb
   rw [upd_same] at e
   cases e
   exact new
  ·rw [upd_ne hb] at e
   refine (I.hok b u e).stay (fun c v hc q => k c v ?_ q) (fun c q => up c _ q) (fun c _ q => up c _ q) fun c _ _ q => up c _ q
   rcases hc with z | z
   ·rw [z]; exact nit b u e
   ·exact nit c _ z
theorem Inv.turnedL {ch : List Addr} {h' : Heap} {t' : Nat} (I : Inv X pins σ H s) (hf : ∀ b ∈ ch, FpOk X pins H b) (k : ∀ b u, b ∉ ch → s.heap.get? b = some u → h'.get? b = some u) (ht : 0 < t' := by first | assumption | exact Inv.tk (by assumption)) :
  Inv X pins σ H { s with heap := h', toks := t' } := by
 have nit : ∀ b u, H b = some u → b ∉ ch := fun b u e z => by rw [(hf b z).1] at e; cases e
 refine I.step (g' := s.gens) (d' := s.drawn) (ch := ch) (fun b hb => ?_) (fun b u _ _ hc e _ => k b u hc e) (fun b u _ _ hc e _ => ⟨u.slots, k b u hc e⟩) (fun b u _ e n => n)
  (fun b u hc e => ⟨u, k b u hc e⟩) (fun b xs e => e) (fun b _ _ e => e) (fun b q e => e) (fun m hm => ?_) (fun b u e => ?_) I.bare ht
 ·obtain ⟨_, f1, _, f3, f4, f5⟩ := hf b hb
  exact ⟨f3, f1, f4, f5⟩
 ·obtain ⟨u, es, ep, ho, r⟩ := hm
  exact ⟨u, es, ep, k _ u (fun z => (hf _ z).2.1 rfl) ho, r⟩
 ·refine (I.hok b u e).stay (fun c v hc q => k c v ?_ q) (fun c q => q) fun c _ q => q
  rcases hc with z | z
  ·rw [z]; exact nit b u e
  ·exact nit c _ z
end
def Ite (K : PySem.W.Frag) (a : Addr) : It :=
 ⟨fun i H => ∃ xs, SqL K H a xs ∧ i < xs.length,
  fun i H x H' => ∃ T v, x = .ref T ∧ H T = none ∧ H' = upd H T (.tup [.int (i : Nat), v]) ∧ ∀ xs, SqL K H a xs → xs[i]? = some v,
  fun i H => ∃ xs, SqL K H a xs ∧ i = xs.length⟩
def Ites (l : List Nat) : It :=
 ⟨fun i H => i < l.length,
  fun i H x H' => ∃ T c, x = .ref T ∧ H T = none ∧ H' = upd H T (.tup [.int (i : Nat), S [c]]) ∧ l[i]? = some c,
  fun i H => i = l.length⟩
theorem turn_enum {P : Program} {w : World} {K : PySem.W.Frag} {elts : List Expr} {kk : Nat} {tpos : Pos} {e it l : Addr} (hei : e ≠ it) (hle : l ≠ e) (hli : l ≠ it) :
  Turn P w K (.Tuple elts kk tpos) (Ite K l) [e, it] e (fun i h => (∃ old, IsEnum h e it i old) ∧ h.IsListIter it l i) where
 mem := by simp
 obj := fun i h st b hb => by
  obtain ⟨⟨old, he⟩, ⟨o1, e1, c1, d1⟩⟩ := st
  simp only [List.mem_cons, List.not_mem_nil, or_false] at hb
  rcases hb with rfl | rfl
  ·exact ⟨_, he, fun v z => nomatch z⟩
  ·exact ⟨_, e1, fun v z => by rw [d1] at z; cases z⟩
 keep := fun i h h' st k => by
  obtain ⟨⟨old, he⟩, h1⟩ := st
  exact ⟨⟨old, k e (by simp) _ he⟩, h1.at fun o q => k it (by simp) o q⟩
 item := by
  intro X hP hw hK hc i pins s σ H E I hf st hg
  subst hP hw hK
  obtain ⟨xs, hq1, hi⟩ := hg
  obtain ⟨us, rv1, p1, _⟩ := I.list hq1
  have hl1 := rv1.length
  have WW := WalksT.enumerate (prog := X.prog) (w := X.w) (I.ok.hd hc) e it l hei hle hli us.toArray
  obtain ⟨he, h1⟩ := st
  refine WW.item i s _ E (by simp; omega) ⟨he, h1, p1.isList⟩ fun T vals h' tk hPt hT hTup hMid kk => ?_
  refine (fun ht => ⟨_, rfl, WW.go elts _ tpos i T _ _ E hMid fun h'' st'' kk2 => ?_⟩)
  obtain ⟨t, u, hu, rfl⟩ := hPt
  obtain ⟨u', hu', ru⟩ := rv1.get (x := xs[i]) (i := i) (by simp [hi])
  have eu : u = u' := by
   have : us[i]? = some u := by simpa using hu
   rw [hu'] at this
   exact (Option.some.inj this).symm
  subst eu
  have kAll : ∀ b o, b ∉ [e, it] → s.heap.get? b = some o → h''.get? b = some o := fun b o hb q => kk2 b o hb (kk b o hb q)
  have hTap := WW.apart i T _ hMid
  obtain ⟨oT, eT, rT⟩ := hTup
  have I2 : Inv X pins σ (upd H T (.tup [.int (i : Nat), xs[i]])) { s with heap := h'', toks := tk } :=
   I.turnedT (ch := [e, it]) hf kAll hT ⟨by show 2 ≤ sizeLine; decide, [.int i t, u], .cons ⟨t, rfl⟩ (.cons ru .nil), ⟨oT, kk2 T oT hTap eT, rT⟩⟩
  obtain ⟨z1, z2, _⟩ := st''
  refine (fun ht => ⟨.ref T, _, I2, rfl, ⟨T, xs[i], rfl, I.hok.fresh hT, rfl, fun xs' h => by rw [I.list_inj h hq1]; simp [hi]⟩, ⟨z1, z2⟩, fun b hb => ?_⟩)
  have bne : b ≠ T := by
   rintro rfl
   have st2 : ∃ o, s.heap.get? b = some o := by
    obtain ⟨old, he⟩ := he
    obtain ⟨o1, e1, _⟩ := h1
    simp only [List.mem_cons, List.not_mem_nil, or_false] at hb
    rcases hb with h | h
    ·rw [h]; exact ⟨_, he⟩
    ·rw [h]; exact ⟨_, e1⟩
   obtain ⟨o, q⟩ := st2
   exact absurd (Heap.lt_size q) (Nat.not_lt.mpr hT)
  rw [upd_ne bne]
  exact (hf b hb).1
 done := by
  intro X hP hw hK hc i pins s σ H E I hf st hg
  subst hP hw hK
  obtain ⟨xs, hq1, hi⟩ := hg
  obtain ⟨us, rv1, p1, _⟩ := I.list hq1
  have hl1 := rv1.length
  have WW := WalksT.enumerate (prog := X.prog) (w := X.w) (I.ok.hd hc) e it l hei hle hli us.toArray
  have ei : i = us.toArray.size := by simp; omega
  rw [ei] at st
  exact WW.done s _ E ⟨st.1, st.2, p1.isList⟩ fun h' tk kk => (fun ht => ⟨rfl, I.turnedL (ch := [e, it]) hf kk⟩)
 self := fun _ _ _ _ _ st h => by
  obtain ⟨⟨old, he⟩, _⟩ := st
  exact wpAny_pyIter_enum he h
theorem turn_enumS {P : Program} {w : World} {K : PySem.W.Frag} {elts : List Expr} {kk : Nat} {tpos : Pos} {e it : Addr} (hei : e ≠ it) (l : List Nat) (ty : String) (t : Tok) (hty : ty = "str_ascii_iterator" ∨ ty = "str_iterator") :
  Turn P w K (.Tuple elts kk tpos) (Ites l) [e, it] e (fun i h => (∃ old, IsEnum h e it i old) ∧ h.IsStrIter it ty ⟨l.toArray⟩ t i) := by
 have WW : ∀ A : Around, A.handled = none → WalksT P w A e [e, it] [e, it] l.length (fun i vals => ∃ t x, (∃ c, l[i]? = some c ∧ ∃ t1, x = Value.str ⟨#[c]⟩ t1) ∧ vals = #[.int i t, x]) (fun i h => (∃ old, IsEnum h e it i old) ∧ h.IsStrIter it ty ⟨l.toArray⟩ t i)
   (fun i T h => (∃ x, IsEnumOut h e it ((i : Int) + 1) x T) ∧ h.IsStrIter it ty ⟨l.toArray⟩ t (i + 1) ∧ T ≠ e ∧ T ≠ it) := fun A hh => by
  rcases hty with rfl | rfl
  ·simpa using WalksT.enumerateD (prog := P) (w := w) (A := A) (Draws.strAscii (A := A.in1) hh it ⟨l.toArray⟩ t) e hei (by simpa using hei) (by simp)
  ·simpa using WalksT.enumerateD (prog := P) (w := w) (A := A) (Draws.strWide (A := A.in1) hh it ⟨l.toArray⟩ t) e hei (by simpa using hei) (by simp)
 refine ⟨by simp, fun i h st b hb => ?_, fun i h h' st k => ?_, ?_, ?_, ?_⟩
 ·obtain ⟨⟨old, he⟩, ⟨o1, e1, c1, d1⟩⟩ := st
  simp only [List.mem_cons, List.not_mem_nil, or_false] at hb
  rcases hb with rfl | rfl
  ·exact ⟨_, he, fun v z => nomatch z⟩
  ·exact ⟨_, e1, fun v z => by rw [d1] at z; cases z⟩
 ·obtain ⟨⟨old, he⟩, ⟨o, e1, r⟩⟩ := st
  exact ⟨⟨old, k e (by simp) _ he⟩, ⟨o, k it (by simp) o e1, r⟩⟩
 ·intro X hP hw hK hc i pins s σ H E I hf st hg
  subst hP hw hK
  have W1 := WW X.A (I.ok.hd hc)
  refine W1.item i s _ E hg st fun T vals h' tk hPt hT hTup hMid kk => ?_
  refine (fun ht => ⟨_, rfl, W1.go elts _ tpos i T _ _ E hMid fun h'' st'' kk2 => ?_⟩)
  obtain ⟨t2, u, hu, rfl⟩ := hPt
  obtain ⟨c, hcx', tu, rfl⟩ := hu
  have kAll : ∀ b o, b ∉ [e, it] → s.heap.get? b = some o → h''.get? b = some o := fun b o hb q => kk2 b o hb (kk b o hb q)
  have hTap := W1.apart i T _ hMid
  obtain ⟨oT, eT, rT⟩ := hTup
  have I2 : Inv X pins σ (upd H T (.tup [.int (i : Nat), S [c]])) { s with heap := h'', toks := tk } :=
   I.turnedT (ch := [e, it]) hf kAll hT ⟨by show 2 ≤ sizeLine; decide, [.int i t2, .str ⟨#[c]⟩ tu], .cons ⟨t2, rfl⟩ (.cons ⟨tu, rfl⟩ .nil), ⟨oT, kk2 T oT hTap eT, rT⟩⟩
  refine (fun ht => ⟨.ref T, _, I2, rfl, ⟨T, c, rfl, I.hok.fresh hT, rfl, hcx'⟩, st'', fun b hb => ?_⟩)
  have bne : b ≠ T := by
   rintro rfl
   have st2 : ∃ o, s.heap.get? b = some o := by
    obtain ⟨⟨old, he⟩, ⟨o1, e1, _⟩⟩ := st
    simp only [List.mem_cons, List.not_mem_nil, or_false] at hb
    rcases hb with h | h
    ·rw [h]; exact ⟨_, he⟩
    ·rw [h]; exact ⟨_, e1⟩
   obtain ⟨o, q⟩ := st2
   exact absurd (Heap.lt_size q) (Nat.not_lt.mpr hT)
  rw [upd_ne bne]
  exact (hf b hb).1
 ·intro X hP hw hK hc i pins s σ H E I hf st hg
  subst hP hw hK
  have ei : i = l.length := hg
  rw [ei] at st
  exact (WW X.A (I.ok.hd hc)).done s _ E st fun h' tk kk => (fun ht => ⟨rfl, I.turnedL (ch := [e, it]) hf kk⟩)
 ·intro A i s Q E st h
  obtain ⟨⟨old, he⟩, _⟩ := st
  exact wpAny_pyIter_enum he h
section
variable {X : Cx}
theorem ne_nat {n l : Nat} (h : l < n) : l ≠ n + 1 ∧ l ≠ n ∧ n + 1 ≠ n := ⟨by omega, by omega, by omega⟩
def iEnum (K : PySem.W.Frag) (ta : TA) : TI := fun σ H R => ta σ H fun vs H1 => ∃ a xs, vs = [.ref a] ∧ SqL K H1 a xs ∧ R (Ite K a) H1
theorem pi_enum {elts : List Expr} {kk : Nat} {tpos : Pos} {a : Expr} {ta : TA} {p pos : Pos} (hg : Gl X "enumerate") (hm : X.mg "enumerate" = none) (ha : PA X [a] ta) (hs : starEach [a] X.env = [(false, eval a X.env)] := by rfl) :
  PI X (.Tuple elts kk tpos) (.Call (.Name "enumerate" p) [a] [] pos) (iEnum X.K ta) := by
 intro pins s σ H R I h
 refine Call_ (ld_blt I hg hm boot_enumerate (PyProof.Rows.callWith_type1 (thn (ha pos pins s σ H _ I h) fun us s1 ⟨vs, H1, I1, r1, q1⟩ => ?_) hs rfl))
 obtain ⟨l, xs, e, hq1, q⟩ := q1
 subst e
 cases r1 with
 | cons r rr =>
  cases rr
  cases r
  obtain ⟨us, rv1, p1, _⟩ := I1.list hq1
  have b1 : l < s1.heap.objs.size := by obtain ⟨o, e, _⟩ := p1.isList; exact Heap.lt_size e
  obtain ⟨n1, n2, n3⟩ := ne_nat b1
  refine call_enumerate_list p1.isList fun h' he h1 hsz kk _ => ?_
  refine wpAny_pyIter_enum he fun _ => ?_
  refine ⟨s1.heap.objs.size + 1, [s1.heap.objs.size + 1, s1.heap.objs.size], _, _, H1, rfl, I1.kept (t' := s1.toks) kk, turn_enum n3 n1 n2, ⟨⟨_, he⟩, h1⟩, fun b hb => ?_, q⟩
  have hb' : s1.heap.objs.size ≤ b := by
   simp only [List.mem_cons, List.not_mem_nil, or_false] at hb
   rcases hb with h | h <;> (rw [h]; first | exact Nat.le_refl _ | exact Nat.le_add_right _ _)
  exact I1.fpOk hb' (I1.hok.fresh hb')
def iEnumS (ta : TA) : TI := fun σ H R => ta σ H fun vs H1 => ∃ l, vs = [S l] ∧ R (Ites l) H1
theorem pi_enumS {elts : List Expr} {kk : Nat} {tpos : Pos} {a : Expr} {ta : TA} {p pos : Pos} (hg : Gl X "enumerate") (hm : X.mg "enumerate" = none) (ha : PA X [a] ta) (hs : starEach [a] X.env = [(false, eval a X.env)] := by rfl) :
  PI X (.Tuple elts kk tpos) (.Call (.Name "enumerate" p) [a] [] pos) (iEnumS ta) := by
 intro pins s σ H R I h
 refine Call_ (ld_blt I hg hm boot_enumerate (PyProof.Rows.callWith_type1 (thn (ha pos pins s σ H _ I h) fun us s1 ⟨vs, H1, I1, r1, q1⟩ => ?_) hs rfl))
 obtain ⟨l, e, q⟩ := q1
 subst e
 cases r1 with
 | cons r rr =>
  cases rr
  obtain ⟨t, rfl⟩ := r
  have n3 : s1.heap.objs.size + 1 ≠ s1.heap.objs.size := by omega
  refine call_enumerate_str fun h' he h1 hsz kk _ => ?_
  refine wpAny_pyIter_enum he fun _ => ?_
  refine ⟨s1.heap.objs.size + 1, [s1.heap.objs.size + 1, s1.heap.objs.size], _, _, H1, rfl, I1.kept (t' := s1.toks) kk, turn_enumS n3 l (strIterType ⟨l.toArray⟩) t ?_, ⟨⟨_, he⟩, h1⟩, fun b hb => ?_, q⟩
  ·unfold strIterType
   split
   ·exact .inl rfl
   ·exact .inr rfl
  have hb' : s1.heap.objs.size ≤ b := by
   simp only [List.mem_cons, List.not_mem_nil, or_false] at hb
   rcases hb with h | h <;> (rw [h]; first | exact Nat.le_refl _ | exact Nat.le_add_right _ _)
  exact I1.fpOk hb' (I1.hok.fresh hb')
end
def hid (H : Hp) (A : List Addr) : Hp := fun b => if b ∈ A then none else H b
theorem hid_ne {H : Hp} {A : List Addr} {b : Addr} (h : b ∉ A) : hid H A b = H b := by unfold hid; rw [if_neg h]
theorem hid_in {H : Hp} {A : List Addr} {b : Addr} (h : b ∈ A) : hid H A b = none := by unfold hid; rw [if_pos h]
theorem of_hid {H : Hp} {A : List Addr} {b : Addr} {o : HO} (h : hid H A b = some o) : b ∉ A ∧ H b = some o := by
 by_cases hb : b ∈ A
 ·rw [hid_in hb] at h; cases h
 ·rw [hid_ne hb] at h; exact ⟨hb, h⟩
theorem hid_same {H : Hp} {A : List Addr} : Same (hid H A) H := fun b o e => (of_hid e).2
theorem Same.hid {H H' : Hp} (s : Same H H') (A : List Addr) : Same (L2.hid H A) (L2.hid H' A) := fun b o e => by
 obtain ⟨h1, h2⟩ := of_hid e
 rw [hid_ne h1]
 exact s b o h2
abbrev Liv (H : Hp) (A : List Addr) : Prop := ∀ a ∈ A, H a ≠ none
theorem Liv.mono {H H' : Hp} {A : List Addr} (h : Liv H A) (s : Same H H') : Liv H' A := fun a ha z => by
 cases q : H a with
 | none => exact h a ha q
 | some o => rw [s a o q] at z; cases z
theorem Liv.fresh {H : Hp} {A : List Addr} (h : Liv H A) {p : Addr} (hp : H p = none) : p ∉ A := fun z => h p z hp
theorem hid_new {H : Hp} {A : List Addr} (h : Liv H A) {p : Addr} {o : HO} (hp : H p = none) : hid (upd H p o) A p = some o := by
 rw [hid_ne (h.fresh hp)]
 exact upd_same
section
variable (K : PySem.W.Frag)
structure Fit (O A : List Addr) (ρ : Rho) (σ : St) (H : Hp) : Prop where
 len : ρ.length = σ.length
 liv : Liv H A
 sub : ∀ a ∈ O, a ∈ A
 val : ∀ (i : Nat) d, ρ[i]? = some (.val d) → ∃ v, σ[i]? = some (some v) ∧ Rep K (hid H A) d v ∧ sm d
 own : ∀ (i : Nat) ds, ρ[i]? = some (.own ds) → ∃ a xs, σ[i]? = some (some (.ref a)) ∧ a ∈ O ∧ H a = some (.lst xs) ∧ Reps K (hid H A) ds xs ∧ sms ds ∧ ds.length ≤ 10000
 apart : ∀ (i j : Nat) ds es a, i ≠ j → ρ[i]? = some (.own ds) → ρ[j]? = some (.own es) → σ[i]? = some (some (.ref a)) → σ[j]? ≠ some (some (.ref a))
end
theorem Fit.mono {K : PySem.W.Frag} {O A : List Addr} {ρ : Rho} {σ : St} {H H' : Hp} (F : Fit K O A ρ σ H) (s : Same H H') : Fit K O A ρ σ H' :=
 ⟨F.len, F.liv.mono s, F.sub, fun i d e => by
  obtain ⟨v, h1, h2, h3⟩ := F.val i d e
  exact ⟨v, h1, h2.mono (s.hid A), h3⟩, fun i ds e => by
  obtain ⟨a, xs, h1, h2, h3, h4, h5⟩ := F.own i ds e
  exact ⟨a, xs, h1, h2, s _ _ h3, h4.mono (s.hid A), h5⟩, F.apart⟩
def Rg {α : Type} (cls : Nat → Addr) (E : XK) (m : M α) (H : Hp) (P : α → Prop) : Prop := match m with
 | .ok a => P a
 | .ex c => ∀ H', Same H H' → E (.ref (cls c)) none H'
 | .bad => False
theorem Rg.bind {α β : Type} {cls : Nat → Addr} {E : XK} {m : M α} {k : α → M β} {H : Hp} {P : β → Prop} {P' : α → Prop} (h : Rg cls E (m.bd k) H P) (f : ∀ a, m = .ok a → Rg cls E (k a) H P → P' a) : Rg cls E m H P' := by
 cases m with
 | ok a => exact f a rfl h
 | ex c => exact h
 | bad => exact h
theorem Rg.ok {α : Type} {cls : Nat → Addr} {E : XK} {m : M α} {H : Hp} {P P' : α → Prop} (h : Rg cls E m H P) (f : ∀ a, m = .ok a → P a → P' a) : Rg cls E m H P' := by
 cases m with
 | ok a => exact f a rfl h
 | ex c => exact h
 | bad => exact h
theorem Rg.heap {α : Type} {cls : Nat → Addr} {E : XK} {m : M α} {H H' : Hp} {P P' : α → Prop} (h : Rg cls E m H P) (s : Same H H') (f : ∀ a, m = .ok a → P a → P' a) : Rg cls E m H' P' := by
 cases m with
 | ok a => exact f a rfl h
 | ex c => exact fun H2 s2 => h H2 (s.trans s2)
 | bad => exact h
section
variable (K : PySem.W.Frag) (cls : Nat → Addr) (A : List Addr) (E : XK)
def Res (m : M Dt) (H : Hp) (Q : VK) : Prop := Rg cls E m H fun d => ∀ v H', Same H H' → Rep K (hid H' A) d v → sm d → Q v H'
def ResB (m : M Bool) (H : Hp) (Q : Bool → Hp → Prop) : Prop := Rg cls E m H fun b => ∀ H', Same H H' → Q b H'
def ResA (m : M (List Dt)) (H : Hp) (Q : List V → Hp → Prop) : Prop := Rg cls E m H fun ds => ∀ vs H', Same H H' → Reps K (hid H' A) ds vs → sms ds → Q vs H'
def ResO (m : M (Option Int)) (H : Hp) (Q : Option Int → Hp → Prop) : Prop := Rg cls E m H fun o => ∀ H', Same H H' → Q o H'
end
section
variable {K : PySem.W.Frag} {cls : Nat → Addr} {A : List Addr} {E : XK} {H H' : Hp}
theorem Res.mono {m : M Dt} {Q : VK} (h : Res K cls A E m H Q) (s : Same H H') : Res K cls A E m H' Q := Rg.heap h s fun d _ p v H2 s2 => p v H2 (s.trans s2)
theorem ResB.mono {m : M Bool} {Q : Bool → Hp → Prop} (h : ResB cls E m H Q) (s : Same H H') : ResB cls E m H' Q := Rg.heap h s fun d _ p H2 s2 => p H2 (s.trans s2)
theorem ResA.mono {m : M (List Dt)} {Q : List V → Hp → Prop} (h : ResA K cls A E m H Q) (s : Same H H') : ResA K cls A E m H' Q := Rg.heap h s fun d _ p v H2 s2 => p v H2 (s.trans s2)
theorem ResO.mono {m : M (Option Int)} {Q : Option Int → Hp → Prop} (h : ResO cls E m H Q) (s : Same H H') : ResO cls E m H' Q := Rg.heap h s fun d _ p H2 s2 => p H2 (s.trans s2)
end
section
variable (K : PySem.W.Frag) (cls : Nat → Addr) (E : XK)
def tM (f : Rho → M Dt) : TE := fun σ H Q => ∃ O A ρ, Fit K O A ρ σ H ∧ Res K cls A E (f ρ) H Q
def tMB (f : Rho → M Bool) : TT := fun σ H Q => ∃ O A ρ, Fit K O A ρ σ H ∧ ResB cls E (f ρ) H Q
def tMA (f : Rho → M (List Dt)) : TA := fun σ H Q => ∃ O A ρ, Fit K O A ρ σ H ∧ ResA K cls A E (f ρ) H Q
def tMO (f : Rho → M (Option Int)) : TO := fun σ H Q => ∃ O A ρ, Fit K O A ρ σ H ∧ ResO cls E (f ρ) H Q
def tMU (f : Rho → M Unit) : TE := fun σ H Q => ∃ O A ρ, Fit K O A ρ σ H ∧ Rg cls E (f ρ) H fun _ => ∀ v H', Same H H' → Q v H'
end
abbrev Ev (X : Cx) (cls : Nat → Addr) (E : XK) (e : Expr) (f : Rho → M Dt) : Prop := PE X e (tM X.K cls E f)
abbrev Tv (X : Cx) (cls : Nat → Addr) (E : XK) (e : Expr) (f : Rho → M Bool) : Prop := PT X e (tMB X.K cls E f)
abbrev Wv (X : Cx) (cls : Nat → Addr) (E : XK) (e : Expr) (f : Rho → M Bool) : Prop := PW X e (tMB X.K cls E f)
abbrev Av (X : Cx) (cls : Nat → Addr) (E : XK) (es : List Expr) (f : Rho → M (List Dt)) : Prop := PA X es (tMA X.K cls E f)
theorem PE.imp {X : Cx} {e : Expr} {t t' : TE} (h : PE X e t') (i : ∀ σ H Q, t σ H Q → t' σ H Q) : PE X e t := fun pins s σ H Q I hw => h pins s σ H Q I (i σ H Q hw)
theorem PT.imp {X : Cx} {e : Expr} {t t' : TT} (h : PT X e t') (i : ∀ σ H Q, t σ H Q → t' σ H Q) : PT X e t := fun pins s σ H Q I hw => h pins s σ H Q I (i σ H Q hw)
theorem PW.imp {X : Cx} {e : Expr} {t t' : TT} (h : PW X e t') (i : ∀ σ H Q, t σ H Q → t' σ H Q) : PW X e t := fun wh pins s σ H Q I hw => h wh pins s σ H Q I (i σ H Q hw)
theorem PA.imp {X : Cx} {es : List Expr} {t t' : TA} (h : PA X es t') (i : ∀ σ H Q, t σ H Q → t' σ H Q) : PA X es t := fun pos pins s σ H Q I hw => h pos pins s σ H Q I (i σ H Q hw)
theorem PO.imp {X : Cx} {e : Option Expr} {t t' : TO} (h : PO X e t') (i : ∀ σ H Q, t σ H Q → t' σ H Q) : PO X e t := fun pins s σ H Q I hw => h pins s σ H Q I (i σ H Q hw)
section
variable {X : Cx} {cls : Nat → Addr} {E : XK} {a b c : Expr} {f g h : Rho → M Dt} {pos : Pos}
theorem ev_of {e : Expr} {d : Dt} {v : V} (h : PE X e (tC v)) (r : ∀ H, Rep X.K H d v) (z : sm d) : Ev X cls E e (pC d) := h.imp fun σ H Q ⟨O, A, ρ, F, q⟩ => q v H (.refl _) (r _) z
theorem ev_var {i : Nat} {x : Str} (h : PE X (.Name x pos) (tVar i)) : Ev X cls E (.Name x pos) (getV i) := h.imp fun σ H Q ⟨O, A, ρ, F, q⟩ => by
 unfold getV gv at q
 split at q
 ·rename_i d e
  obtain ⟨v, h1, h2, h3⟩ := F.val i d e
  exact ⟨v, h1, q v H (.refl _) h2 h3⟩
 ·exact q.elim
theorem ev_int {i j} : Ev X cls E (.Constant (.int i) j pos) (pC (.int i)) := ev_of pe_int (fun _ => rep_int) trivial
theorem ev_bl {i j} : Ev X cls E (.Constant (.bool i) j pos) (pC (.bl i)) := ev_of pe_bl (fun _ => rep_bl) trivial
theorem ev_non {j} : Ev X cls E (.Constant .none j pos) (pC .non) := ev_of pe_non (fun _ => rep_non) trivial
theorem ev_S {l : List Nat} {x : Str} {j} (h : x = ⟨l.toArray⟩ := by decide +kernel) (z : l.length ≤ 10000 := by decide) : Ev X cls E (.Constant (.str x) j pos) (pC (.str l)) := ev_of (pe_S h) (fun _ => rep_str) z
def OpD (X : Cx) (cls : Nat → Addr) (E : XK) (F : Value → Value → Sem Value) (op : Dt → Dt → M Dt) : Prop :=
 ∃ r, OpR X F r ∧ ∀ A H Q d1 d2 x y, Liv H A → Rep X.K (hid H A) d1 x → Rep X.K (hid H A) d2 y → sm d1 → sm d2 → Res X.K cls A E (op d1 d2) H Q → r x y H Q
theorem t2 {r : R2} {op : Dt → Dt → M Dt} (ho : ∀ A H Q d1 d2 x y, Liv H A → Rep X.K (hid H A) d1 x → Rep X.K (hid H A) d2 y → sm d1 → sm d2 → Res X.K cls A E (op d1 d2) H Q → r x y H Q) (σ : St) (H : Hp) (Q : VK)
  (h : tM X.K cls E (p2 op f g) σ H Q) : tOp r (tM X.K cls E f) (tM X.K cls E g) σ H Q := by
 obtain ⟨O, A, ρ, F, q⟩ := h
 refine ⟨O, A, ρ, F, Rg.bind q fun d1 _ q1 => ?_⟩
 intro v H1 s1 r1 z1
 refine ⟨O, A, ρ, F.mono s1, Rg.bind (Res.mono (Q := Q) q1 s1) fun d2 _ q2 => ?_⟩
 intro u H2 s2 r2 z2
 exact ho A H2 Q d1 d2 v u ((F.liv.mono s1).mono s2) (r1.mono (s2.hid A)) r2 z1 z2 (Res.mono q2 s2)
theorem ev_op {o : Operator} {op : Dt → Dt → M Dt} (ho : OpD X cls E (binaryOp o) op) (ha : Ev X cls E a f) (hb : Ev X cls E b g) : Ev X cls E (.BinOp a o b pos) (p2 op f g) := by
 obtain ⟨r, h1, h2⟩ := ho
 exact (pe_op h1 ha hb).imp (t2 h2)
theorem ev_cmp {o : CmpOp} {op : Dt → Dt → M Dt} (ho : OpD X cls E (compareOp o) op) (ha : Ev X cls E a f) (hb : Ev X cls E b g) (hm : behindInMarks o b = false) : Ev X cls E (.Compare a [o] [b] pos) (p2 op f g) := by
 obtain ⟨r, h1, h2⟩ := ho
 exact (pe_cmpR h1 ha hb hm).imp (t2 h2)
theorem t_test {t : TE} {f : Rho → M Dt} (h : ∀ σ H Q, tM X.K cls E f σ H Q → t σ H Q) (σ : St) (H : Hp) (Q : Bool → Hp → Prop) (q : tMB X.K cls E (tOf f) σ H Q) : tTest t σ H Q := by
 obtain ⟨O, A, ρ, F, q⟩ := q
 refine h σ H _ ⟨O, A, ρ, F, Rg.bind q fun d _ q1 => ?_⟩
 intro v H1 s1 r1 z1
 cases d with
 | bl k =>
  simp only [Rep] at r1
  exact ⟨k, r1, q1 H1 s1⟩
 | _ => exact (show False from q1).elim
theorem tv_cmp {o : CmpOp} {op : Dt → Dt → M Dt} (ho : OpD X cls E (compareOp o) op) (ha : Ev X cls E a f) (hb : Ev X cls E b g) (hm : behindInMarks o b = false) : Tv X cls E (.Compare a [o] [b] pos) (tOf (p2 op f g)) := by
 obtain ⟨r, h1, h2⟩ := ho
 exact (pt_cmpR h1 ha hb hm).imp (t_test (t2 h2))
theorem tv_val (ha : Ev X cls E a f) (he : ∀ whole, isTrue a X.env whole = (do let v ← whole; standAt a.pos; holding [v] (truthy v)) := by intro _; rfl) : Tv X cls E a (tOf f) :=
 (pt_val ha he).imp (t_test fun _ _ _ q => q)
theorem t_chain {r r' : R2} {op op' : Dt → Dt → M Dt} (ho : ∀ A H Q d1 d2 x y, Liv H A → Rep X.K (hid H A) d1 x → Rep X.K (hid H A) d2 y → sm d1 → sm d2 → Res X.K cls A E (op d1 d2) H Q → r x y H Q)
  (ho' : ∀ A H Q d1 d2 x y, Liv H A → Rep X.K (hid H A) d1 x → Rep X.K (hid H A) d2 y → sm d1 → sm d2 → Res X.K cls A E (op' d1 d2) H Q → r' x y H Q) (σ : St) (H : Hp) (Q : VK)
  (q : tM X.K cls E (pChain op op' f g h) σ H Q) : tChain r r' (tM X.K cls E f) (tM X.K cls E g) (tM X.K cls E h) σ H Q := by
 obtain ⟨O, A, ρ, F, q⟩ := q
 refine ⟨O, A, ρ, F, Rg.bind q fun d1 _ q1 => ?_⟩
 intro v H1 s1 r1 z1
 refine ⟨O, A, ρ, F.mono s1, Rg.bind (Res.mono (Q := Q) q1 s1) fun d2 _ q2 => ?_⟩
 intro u H2 s2 r2 z2
 have L2' : Liv H2 A := (F.liv.mono s1).mono s2
 refine ho A H2 _ d1 d2 v u L2' (r1.mono (s2.hid A)) r2 z1 z2 (Rg.bind (Res.mono (Q := Q) q2 s2) fun d _ q3 => ?_)
 intro w H3 s3 r3 z3
 cases d with
 | bl k =>
  simp only [Rep] at r3
  refine ⟨k, r3, ?_⟩
  cases k with
  | false =>
   simp only [Bool.false_eq_true, if_false]
   have q3' : Res X.K cls A E (.ok (.bl false)) H2 Q := q3
   exact q3' (.bl false) H3 s3 rep_bl trivial
  | true =>
   simp only [if_true]
   have q3' : Res X.K cls A E ((h ρ).bd fun z => op' d2 z) H2 Q := q3
   refine ⟨O, A, ρ, ((F.mono s1).mono s2).mono s3, Rg.bind (Res.mono (Q := Q) q3' s3) fun d3 _ q4 => ?_⟩
   intro w' H4 s4 r4 z4
   exact ho' A H4 Q d2 d3 u w' ((L2'.mono s3).mono s4) ((r2.mono (s3.hid A)).mono (s4.hid A)) r4 z2 z4 (Res.mono q4 s4)
 | _ => exact (show False from q3).elim
theorem tv_chain {o o' : CmpOp} {op op' : Dt → Dt → M Dt} (ho : OpD X cls E (compareOp o) op) (ho' : OpD X cls E (compareOp o') op') (ha : Ev X cls E a f) (hb : Ev X cls E b g) (hc : Ev X cls E c h)
  (hm : lastMarks [o, o'] [b, c] = false := by with_unfolding_all rfl) : Tv X cls E (.Compare a [o, o'] [b, c] pos) (tOf (pChain op op' f g h)) := by
 obtain ⟨r, h1, h2⟩ := ho
 obtain ⟨r', h1', h2'⟩ := ho'
 exact (pt_chain h1 h1' ha hb hc hm).imp (t_test (t_chain h2 h2'))
variable {F G : Rho → M Bool}
theorem tb_and {σ : St} {H : Hp} {Q : Bool → Hp → Prop} (q : tMB X.K cls E (tAn F G) σ H Q) : tAnd (tMB X.K cls E F) (tMB X.K cls E G) σ H Q := by
 obtain ⟨O, A, ρ, Ft, q⟩ := q
 refine ⟨O, A, ρ, Ft, Rg.bind q fun b _ q1 => ?_⟩
 intro H1 s1
 cases b with
 | false =>
  simp only [Bool.false_eq_true, if_false] at q1 ⊢
  exact q1 H1 s1
 | true =>
  simp only [if_true] at q1 ⊢
  exact ⟨O, A, ρ, Ft.mono s1, ResB.mono q1 s1⟩
theorem wv_and1 (ha : Tv X cls E a F) : Wv X cls E (.BoolOp .And [a] pos) F := pw_and1 ha
theorem wv_and {rest : List Expr} (ha : Tv X cls E a F) (hb : Wv X cls E (.BoolOp .And (b :: rest) pos) G) : Wv X cls E (.BoolOp .And (a :: b :: rest) pos) (tAn F G) := (pw_and ha hb).imp fun _ _ _ q => tb_and q
theorem tv_not (ha : Tv X cls E a F) : Tv X cls E (.UnaryOp .Not a pos) (tNt F) := (pt_not ha).imp fun σ H Q ⟨O, A, ρ, Ft, q⟩ => ⟨O, A, ρ, Ft, Rg.bind q fun b _ q1 H1 s1 => q1 H1 s1⟩
theorem ev_one {o} (ha : Ev X cls E a f) : Ev X cls E (.BoolOp o [a] pos) f := pe_one ha
theorem tru_of {d : Dt} {k : Bool → M Dt} {A : List Addr} {H : Hp} {Q : VK} (q : Res X.K cls A E ((truM d).bd k) H Q) {v : V} {H0 : Hp} (r : Rep X.K H0 d v) : ∃ b, d = .bl b ∧ v = .bl b ∧ Res X.K cls A E (k b) H Q := by
 cases d with
 | bl b =>
  simp only [Rep] at r
  exact ⟨b, rfl, r, q⟩
 | _ => exact (show False from q).elim
theorem ev_and {rest : List Expr} (ha : Ev X cls E a f) (hb : Ev X cls E (.BoolOp .And (b :: rest) pos) g) : Ev X cls E (.BoolOp .And (a :: b :: rest) pos) (pAn f g) := (pe_and ha hb).imp fun σ H Q ⟨O, A, ρ, Ft, q⟩ => by
 refine ⟨O, A, ρ, Ft, Rg.bind q fun d _ q1 => ?_⟩
 intro v H1 s1 r1 z1
 obtain ⟨b, rfl, rfl, q2⟩ := tru_of (Q := Q) q1 r1
 refine ⟨b, rfl, ?_⟩
 cases b with
 | false =>
  simp only [Bool.false_eq_true, if_false] at q2 ⊢
  exact q2 _ H1 s1 rep_bl trivial
 | true =>
  simp only [if_true] at q2 ⊢
  exact ⟨O, A, ρ, Ft.mono s1, Res.mono q2 s1⟩
theorem ev_or {rest : List Expr} (ha : Ev X cls E a f) (hb : Ev X cls E (.BoolOp .Or (b :: rest) pos) g) : Ev X cls E (.BoolOp .Or (a :: b :: rest) pos) (pOr f g) := (pe_or ha hb).imp fun σ H Q ⟨O, A, ρ, Ft, q⟩ => by
 refine ⟨O, A, ρ, Ft, Rg.bind q fun d _ q1 => ?_⟩
 intro v H1 s1 r1 z1
 obtain ⟨b, rfl, rfl, q2⟩ := tru_of (Q := Q) q1 r1
 refine ⟨b, rfl, ?_⟩
 cases b with
 | false =>
  simp only [Bool.false_eq_true, if_false] at q2 ⊢
  exact ⟨O, A, ρ, Ft.mono s1, Res.mono q2 s1⟩
 | true =>
  simp only [if_true] at q2 ⊢
  exact q2 _ H1 s1 rep_bl trivial
theorem ev_if (hc : Tv X cls E c F) (ha : Ev X cls E a f) (hb : Ev X cls E b g) : Ev X cls E (.IfExp c a b pos) (pIf F f g) := (pe_ifExp hc ha hb).imp fun σ H Q ⟨O, A, ρ, Ft, q⟩ => by
 refine ⟨O, A, ρ, Ft, Rg.bind q fun b _ q1 => ?_⟩
 intro H1 s1
 cases b with
 | false =>
  simp only [Bool.false_eq_true, if_false] at q1 ⊢
  exact ⟨O, A, ρ, Ft.mono s1, Res.mono q1 s1⟩
 | true =>
  simp only [if_true] at q1 ⊢
  exact ⟨O, A, ρ, Ft.mono s1, Res.mono q1 s1⟩
theorem ev_neg (ha : Ev X cls E a f) : Ev X cls E (.UnaryOp .USub a pos) (p1 oNeg f) := (pe_un un_neg ha).imp fun σ H Q ⟨O, A, ρ, Ft, q⟩ => by
 refine ⟨O, A, ρ, Ft, Rg.bind q fun d _ q1 => ?_⟩
 intro v H1 s1 r1 z1
 cases d with
 | int b =>
  simp only [Rep] at r1
  exact ⟨b, r1, q1 _ H1 s1 rep_int trivial⟩
 | _ => exact (show False from q1).elim
theorem repI {H : Hp} {i : Int} {v : V} (h : Rep X.K H (.int i) v) : v = .int i := by simpa only [Rep] using h
theorem repS {H : Hp} {l : List Nat} {v : V} (h : Rep X.K H (.str l) v) : v = S l := by simpa only [Rep] using h
theorem repB {H : Hp} {b : Bool} {v : V} (h : Rep X.K H (.bl b) v) : v = .bl b := by simpa only [Rep] using h
theorem repN {H : Hp} {v : V} (h : Rep X.K H .non v) : v = .non := by simpa only [Rep] using h
theorem repL {K : PySem.W.Frag} {H : Hp} {ds : List Dt} {v : V} (h : Rep K H (.lst ds) v) : ∃ a xs, v = .ref a ∧ SqL K H a xs ∧ Reps K H ds xs := by simpa only [Rep] using h
theorem repT {K : PySem.W.Frag} {H : Hp} {ds : List Dt} {v : V} (h : Rep K H (.tup ds) v) : ∃ a xs, v = .ref a ∧ SqT K H a xs ∧ Reps K H ds xs := by simpa only [Rep] using h
theorem szS_of {A : List Addr} {H : Hp} {Q : VK} {l : List Nat} (q : Res X.K cls A E (szS l) H Q) : l.length ≤ 10000 ∧ Q (S l) H := by
 unfold szS at q
 split at q
 ·rename_i h
  exact ⟨h, q (S l) H (.refl _) rep_str h⟩
 ·exact (show False from q).elim
theorem sm10 {n : Nat} (h : n ≤ 10000) : n ≤ sizeLine := Nat.le_trans h (by decide)
theorem szL_of {A : List Addr} {H : Hp} {Q : VK} {l : List Dt} {xs : List V} (q : Res X.K cls A E (szL l) H Q) (L : Liv H A) (r : Reps X.K (hid H A) l xs) (z : sms l) : l.length ≤ 10000 ∧ ∀ p, H p = none → Q (.ref p) (upd H p (.lst xs)) := by
 unfold szL at q
 split at q
 ·rename_i h
  refine ⟨h, fun p hp => q (.ref p) _ (.upd hp) (rep_lst (hid_new L hp) (r.mono ((Same.upd hp).hid A))) ⟨h, z⟩⟩
 ·exact (show False from q).elim
def rCatL (K : PySem.W.Frag) : R2 := fun x y H Q => ∃ l b xs zs, x = .ref l ∧ y = .ref b ∧ SqL K H l xs ∧ SqL K H b zs ∧ xs.length + zs.length ≤ sizeLine ∧ ∀ p, H p = none → Q (.ref p) (upd H p (.lst (xs ++ zs)))
theorem op_catL : OpR X (binaryOp .Add) (rCatL X.K) := by
 intro pins s σ H x y v u Q I rx ry h
 obtain ⟨l, b, xs, zs, rfl, rfl, hH, hB, hz, q⟩ := h
 cases rx
 cases ry
 obtain ⟨vs, r, pl, _⟩ := I.list hH
 obtain ⟨ws, r2, pl2, _⟩ := I.list hB
 have hl := r.length
 have hl2 := r2.length
 obtain ⟨⟨cl, dd, data, sl⟩, n, ho, hc, hd, hdt⟩ := pl
 obtain ⟨⟨cl2, dd2, data2, sl2⟩, n2, ho2, hc2, hd2, hdt2⟩ := pl2
 simp only at hc hd hdt hc2 hd2 hdt2
 subst hc hd hdt hc2 hd2 hdt2
 have e : vs.toArray ++ ws.toArray = (vs ++ ws).toArray := by simp
 refine concat_meets ⟨_, ho, rfl⟩ ⟨_, ho2, rfl⟩ noFill_list_add seq_list_add PySem.F.slot_list_add PySem.F.entry_list_add (PySem.F.args_list_add_2 _ _) (list_addW l b vs.toArray ws.toArray n n2 none none sl sl2 (by simp; omega)) ⟨ho, ho2, ?_⟩
 rw [e]
 exact (fun ht => ⟨.ref _, _, I.lnew (t' := s.toks) (r.append r2) (by rw [List.length_append]; omega), rfl, q _ I.fresh⟩)
theorem od_add : OpD X cls E (binaryOp .Add) oAdd := by
 refine ⟨_, op_add.or (op_addS.or op_catL), fun A H Q d1 d2 x y L r1 r2 z1 z2 q => ?_⟩
 cases d1 with
 | int i =>
  cases d2 with
  | int j => exact .inl ⟨i, j, repI r1, repI r2, q _ H (.refl _) rep_int trivial⟩
  | _ => exact (show False from q).elim
 | str l =>
  cases d2 with
  | str m =>
   obtain ⟨h, q⟩ := szS_of q
   exact .inr (.inl ⟨l, m, repS r1, repS r2, sm10 (by simpa using h), q⟩)
  | _ => exact (show False from q).elim
 | lst l =>
  cases d2 with
  | lst m =>
   obtain ⟨p, xs, rfl, h1, h2⟩ := repL r1
   obtain ⟨p', ys, rfl, h1', h2'⟩ := repL r2
   have e1 := h2.length
   have e2 := h2'.length
   obtain ⟨h, q⟩ := szL_of q L (h2.append h2') (sms_append z1.2 z2.2)
   exact .inr (.inr ⟨p, p', xs, ys, rfl, rfl, hid_same.seq h1, hid_same.seq h1', sm10 (by simp at h; omega), q⟩)
  | _ => exact (show False from q).elim
 | _ => cases d2 <;> exact (show False from q).elim
theorem od_I {F : Value → Value → Sem Value} {C : Int → Int → Prop} [∀ i j, Decidable (C i j)] {k : Int → Int → V} {kd : Int → Int → Dt} {op : Dt → Dt → M Dt} (h : OpR X F (rI C k)) (hk : ∀ i j H, Rep X.K H (kd i j) (k i j) ∧ sm (kd i j)) (h1 : ∀ i j, op (.int i) (.int j) = if C i j then .ok (kd i j) else .bad)
  (h2 : ∀ d1 d2, (∀ i j, ¬ (d1 = .int i ∧ d2 = .int j)) → op d1 d2 = .bad) : OpD X cls E F op := by
 refine ⟨_, h, fun A H Q d1 d2 x y L r1 r2 z1 z2 q => ?_⟩
 by_cases hh : ∃ i j, d1 = .int i ∧ d2 = .int j
 ·obtain ⟨i, j, rfl, rfl⟩ := hh
  rw [h1] at q
  split at q
  ·rename_i hc
   exact ⟨i, j, repI r1, repI r2, hc, q _ H (.refl _) (hk i j _).1 (hk i j H).2⟩
  ·exact (show False from q).elim
 ·rw [h2 d1 d2 fun i j z => hh ⟨i, j, z⟩] at q
  exact (show False from q).elim
theorem od_I0 {F : Value → Value → Sem Value} {k : Int → Int → V} {kd : Int → Int → Dt} {op : Dt → Dt → M Dt} (h : OpR X F (rI0 k)) (hk : ∀ i j H, Rep X.K H (kd i j) (k i j) ∧ sm (kd i j)) (h1 : ∀ i j, op (.int i) (.int j) = .ok (kd i j))
  (h2 : ∀ d1 d2, (∀ i j, ¬ (d1 = .int i ∧ d2 = .int j)) → op d1 d2 = .bad) : OpD X cls E F op := by
 refine ⟨_, h, fun A H Q d1 d2 x y L r1 r2 z1 z2 q => ?_⟩
 by_cases hh : ∃ i j, d1 = .int i ∧ d2 = .int j
 ·obtain ⟨i, j, rfl, rfl⟩ := hh
  rw [h1] at q
  exact ⟨i, j, repI r1, repI r2, q _ H (.refl _) (hk i j _).1 (hk i j H).2⟩
 ·rw [h2 d1 d2 fun i j z => hh ⟨i, j, z⟩] at q
  exact (show False from q).elim
theorem no_int2 {op : Dt → Dt → M Dt} (h : ∀ d1 d2, op d1 d2 = .bad ∨ ∃ i j, d1 = .int i ∧ d2 = .int j) (d1 d2 : Dt) (hn : ∀ i j, ¬ (d1 = .int i ∧ d2 = .int j)) : op d1 d2 = .bad := by
 rcases h d1 d2 with h | ⟨i, j, h⟩
 ·exact h
 ·exact (hn i j h).elim
theorem od_sub : OpD X cls E (binaryOp .Sub) oSub := od_I0 op_sub (fun _ _ _ => ⟨rep_int, trivial⟩) (fun _ _ => rfl) (no_int2 fun d1 d2 => by cases d1 <;> cases d2 <;> simp [oSub])
theorem od_mod : OpD X cls E (binaryOp .Mod) oMod := od_I op_mod (fun _ _ _ => ⟨rep_int, trivial⟩) (fun _ _ => rfl) (no_int2 fun d1 d2 => by cases d1 <;> cases d2 <;> simp [oMod])
theorem od_lt : OpD X cls E (compareOp .Lt) oLt := od_I0 op_lt (fun _ _ _ => ⟨rep_bl, trivial⟩) (fun _ _ => rfl) (no_int2 fun d1 d2 => by cases d1 <;> cases d2 <;> simp [oLt])
theorem od_le : OpD X cls E (compareOp .LtE) oLe := od_I0 op_le (fun _ _ _ => ⟨rep_bl, trivial⟩) (fun _ _ => rfl) (no_int2 fun d1 d2 => by cases d1 <;> cases d2 <;> simp [oLe])
instance (i j : Int) : Decidable (CDiv i j) := by unfold CDiv; infer_instance
theorem od_div : OpD X cls E (binaryOp .FloorDiv) oDiv := od_I op_fdiv (fun _ _ _ => ⟨rep_int, trivial⟩) (fun _ _ => rfl) (no_int2 fun d1 d2 => by cases d1 <;> cases d2 <;> simp [oDiv])
theorem od_shr : OpD X cls E (binaryOp .RShift) oShr := od_I op_shr (fun _ _ _ => ⟨rep_int, trivial⟩) (fun _ _ => rfl) (no_int2 fun d1 d2 => by cases d1 <;> cases d2 <;> simp [oShr])
theorem od_mul : OpD X cls E (binaryOp .Mult) oMul := by
 refine ⟨_, op_mul.or op_repS, fun A H Q d1 d2 x y L r1 r2 z1 z2 q => ?_⟩
 cases d1 with
 | int i =>
  cases d2 with
  | int j =>
   simp only [oMul] at q
   split at q
   ·rename_i h
    exact .inl ⟨i, j, repI r1, repI r2, h, q _ H (.refl _) rep_int trivial⟩
   ·exact (show False from q).elim
  | _ => exact (show False from q).elim
 | str l =>
  cases d2 with
  | int j =>
   simp only [oMul] at q
   split at q
   ·rename_i h
    exact .inr ⟨l, j, repS r1, repI r2, h.1, h.2.1, h.2.2, (szS_of q).2⟩
   ·exact (show False from q).elim
  | _ => exact (show False from q).elim
 | _ => cases d2 <;> exact (show False from q).elim
theorem od_eq (hu : X.A.units + 50 < cLine) : OpD X cls E (compareOp .Eq) oEq := by
 refine ⟨_, op_eqD hu, fun A H Q d1 d2 x y L r1 r2 z1 z2 q => ?_⟩
 unfold oEq at q
 split at q
 ·rename_i h
  exact ⟨d1, d2, r1.mono hid_same, r2.mono hid_same, h, q _ H (.refl _) rep_bl trivial⟩
 ·exact (show False from q).elim
theorem od_ne (hu : X.A.units + 50 < cLine) : OpD X cls E (compareOp .NotEq) oNe := by
 refine ⟨_, op_neD hu, fun A H Q d1 d2 x y L r1 r2 z1 z2 q => ?_⟩
 unfold oNe at q
 split at q
 ·rename_i h
  exact ⟨d1, d2, r1.mono hid_same, r2.mono hid_same, h, q _ H (.refl _) rep_bl trivial⟩
 ·exact (show False from q).elim
end
section
variable {X : Cx} {cls : Nat → Addr} {E : XK} {a b c : Expr} {f g h : Rho → M Dt} {pos : Pos}
theorem flat_rep {H : Hp} {d : Dt} {v : V} (h : flatD d = true) (r : Rep X.K H d v) : flatV v = true := by
 cases d with
 | non => cases repN r; rfl
 | bl b => cases repB r; rfl
 | int i => cases repI r; rfl
 | str l => cases repS r; rfl
 | _ => cases h
theorem eqV_rep {H H' : Hp} {d e : Dt} {v w : V} (h1 : flatD d = true) (h2 : flatD e = true) (r1 : Rep X.K H d v) (r2 : Rep X.K H' e w) : eqV v w = eqD d e := by
 cases d with
 | non =>
  cases repN r1
  cases e with
  | non => cases repN r2; rfl
  | bl b => cases repB r2; rfl
  | int i => cases repI r2; rfl
  | str l => cases repS r2; rfl
  | _ => cases h2
 | bl b =>
  cases repB r1
  cases e with
  | non => cases repN r2; rfl
  | bl b' => cases repB r2; cases b <;> cases b' <;> rfl
  | int i => cases repI r2; cases b <;> simp [eqV, eqD, b2i]
  | str l => cases repS r2; rfl
  | _ => cases h2
 | int i =>
  cases repI r1
  cases e with
  | non => cases repN r2; rfl
  | bl b => cases repB r2; cases b <;> simp [eqV, eqD, b2i]
  | int j => cases repI r2; simp [eqV, eqD]
  | str l => cases repS r2; rfl
  | _ => cases h2
 | str l =>
  cases repS r1
  cases e with
  | non => cases repN r2; rfl
  | bl b => cases repB r2; rfl
  | int j => cases repI r2; rfl
  | str m => cases repS r2; simp [eqV, eqD, str_beqS]
  | _ => cases h2
 | _ => cases h1
theorem flats_rep {H : Hp} : ∀ {ds : List Dt} {xs : List V}, ds.all flatD = true → Reps X.K H ds xs → xs.all flatV = true
 | [], _, _, r => by simp only [Reps] at r; subst r; rfl
 | d :: ds, _, h, r => by
  simp only [Reps] at r
  obtain ⟨x, t, rfl, r1, r2⟩ := r
  rw [List.all_cons, Bool.and_eq_true] at h ⊢
  exact ⟨flat_rep h.1 r1, flats_rep h.2 r2⟩
theorem in_rep {H H' : Hp} {e : Dt} {w : V} (he : flatD e = true) (re : Rep X.K H' e w) : ∀ {ds : List Dt} {xs : List V}, ds.all flatD = true → Reps X.K H ds xs → inV w xs = ds.any fun d => eqD d e
 | [], _, _, r => by simp only [Reps] at r; subst r; rfl
 | d :: ds, _, h, r => by
  simp only [Reps] at r
  obtain ⟨x, t, rfl, r1, r2⟩ := r
  rw [List.all_cons, Bool.and_eq_true] at h
  unfold inV
  rw [List.any_cons, List.any_cons, eqV_rep h.1 he r1 re]
  have := in_rep he re h.2 r2
  unfold inV at this
  rw [this]
theorem r_in {A : List Addr} {H : Hp} {Q : Bool → Prop} {d1 d2 : Dt} {x y : V} {neg : Bool} {QQ : VK} (r1 : Rep X.K (hid H A) d1 x) (r2 : Rep X.K (hid H A) d2 y) (hq : ∀ k, oIn d1 d2 = .ok (.bl k) → QQ (.bl (if neg then !k else k)) H) (hb : ∃ k, oIn d1 d2 = .ok (.bl k)) :
  rInS neg x y H QQ ∨ rIn X.K neg x y H QQ := by
 obtain ⟨k, hk⟩ := hb
 have q := hq k hk
 unfold oIn at hk
 split at hk
 ·rename_i c l
  injection hk with hk
  injection hk with hk
  subst hk
  exact .inl ⟨c, l, repS r1, repS r2, q⟩
 ·rename_i ds _
  split at hk
  ·rename_i hc
   injection hk with hk
   injection hk with hk
   obtain ⟨p, xs, rfl, h1, h2⟩ := repL r2
   refine .inr ⟨p, xs, rfl, .inl (hid_same.seq h1), flat_rep hc.1 r1, flats_rep hc.2 h2, ?_⟩
   rw [in_rep hc.1 r1 hc.2 h2, hk]
   exact q
  ·cases hk
 ·rename_i ds _
  split at hk
  ·rename_i hc
   injection hk with hk
   injection hk with hk
   obtain ⟨p, xs, rfl, h1, h2⟩ := repT r2
   refine .inr ⟨p, xs, rfl, .inr (hid_same.seqT h1), flat_rep hc.1 r1, flats_rep hc.2 h2, ?_⟩
   rw [in_rep hc.1 r1 hc.2 h2, hk]
   exact q
  ·cases hk
 ·cases hk
theorem oIn_bl {d1 d2 d : Dt} (h : oIn d1 d2 = .ok d) : ∃ k, d = .bl k := by
 unfold oIn at h
 split at h
 ·injection h with h; exact ⟨_, h.symm⟩
 ·split at h
  ·injection h with h; exact ⟨_, h.symm⟩
  ·cases h
 ·split at h
  ·injection h with h; exact ⟨_, h.symm⟩
  ·cases h
 ·cases h
theorem oIn_ex {d1 d2 : Dt} {c : Nat} (h : oIn d1 d2 = .ex c) : False := by
 unfold oIn at h
 split at h
 ·cases h
 ·split at h <;> cases h
 ·split at h <;> cases h
 ·cases h
theorem od_in : OpD X cls E (compareOp .In) oIn := by
 refine ⟨_, op_inS.or op_in_seq, fun A H Q d1 d2 x y L r1 r2 z1 z2 q => ?_⟩
 cases hm : oIn d1 d2 with
 | ok d =>
  obtain ⟨k, rfl⟩ := oIn_bl hm
  rw [hm] at q
  refine r_in (Q := fun _ => True) (neg := false) r1 r2 (fun k' hk' => ?_) ⟨k, hm⟩
  rw [hm] at hk'
  cases hk'
  exact q _ H (.refl _) rep_bl trivial
 | ex c => exact (oIn_ex hm).elim
 | bad => rw [hm] at q; exact (show False from q).elim
theorem od_notin : OpD X cls E (compareOp .NotIn) oNotIn := by
 refine ⟨_, op_notInS.or op_notIn_seq, fun A H Q d1 d2 x y L r1 r2 z1 z2 q => ?_⟩
 unfold oNotIn at q
 cases hm : oIn d1 d2 with
 | ok d =>
  obtain ⟨k, rfl⟩ := oIn_bl hm
  rw [hm] at q
  refine r_in (Q := fun _ => True) (neg := true) r1 r2 (fun k' hk' => ?_) ⟨k, hm⟩
  rw [hm] at hk'
  cases hk'
  exact q _ H (.refl _) rep_bl trivial
 | ex c => exact (oIn_ex hm).elim
 | bad => rw [hm] at q; exact (show False from q).elim
theorem isNon_rep {H : Hp} {d : Dt} {x : V} (r : Rep X.K H d x) : isNon d = decide (x = .non) := by
 cases d with
 | non => cases repN r; rfl
 | bl b => cases repB r; rfl
 | int b => cases repI r; rfl
 | str b => cases repS r; rfl
 | lst b => obtain ⟨a, xs, rfl, _⟩ := repL r; rfl
 | tup b => obtain ⟨a, xs, rfl, _⟩ := repT r; rfl
theorem od_is : OpD X cls E (compareOp .Is) oIs := by
 refine ⟨_, op_isB.or op_isN, fun A H Q d1 d2 x y L r1 r2 z1 z2 q => ?_⟩
 cases d2 with
 | bl j =>
  cases d1 with
  | bl i => exact .inl ⟨i, j, repB r1, repB r2, q _ H (.refl _) rep_bl trivial⟩
  | _ => exact (show False from q).elim
 | non =>
  refine .inr ⟨repN r2, ?_⟩
  rw [← isNon_rep r1]
  exact q _ H (.refl _) rep_bl trivial
 | _ => exact (show False from q).elim
theorem reps_at {K : PySem.W.Frag} {H : Hp} {ds : List Dt} {xs : List V} (r : Reps K H ds xs) {i : Int} {d : Dt} (h : atZ ds i = some d) : ∃ x, atI xs i = some x ∧ Rep K H d x := by
 have hl := r.length
 unfold atZ at h
 have e : ixZ ds.length i = ixN xs.length i := by rw [hl]; rfl
 unfold atI
 rw [← e]
 cases hj : ixZ ds.length i with
 | none => rw [hj] at h; cases h
 | some j =>
  rw [hj] at h
  simp only [Option.bind_some] at h ⊢
  have hlt : j < ds.length := (List.getElem?_eq_some_iff.mp h).1
  have hx : xs[j]? = some (xs[j]'(by omega)) := by simp
  obtain ⟨d', h1, h2⟩ := r.get hx
  rw [h] at h1
  cases h1
  exact ⟨_, hx, h2⟩
theorem atZ_mem {α : Type} {l : List α} {i : Int} {x : α} (h : atZ l i = some x) : x ∈ l := by
 unfold atZ at h
 cases hj : ixZ l.length i with
 | none => rw [hj] at h; cases h
 | some j => rw [hj] at h; exact List.mem_of_getElem? h
theorem ev_ix (ha : Ev X cls E a f) (hb : Ev X cls E b g) (hs : PlainIx b) : Ev X cls E (.Subscript a b pos) (p2 oIx f g) := by
 refine (pe_ix (ix_S.or (ix_list.or ix_tup)) ha hb hs).imp (t2 fun A H Q d1 d2 x y L r1 r2 z1 z2 q => ?_)
 cases d1 with
 | str l =>
  cases d2 with
  | int i =>
   simp only [oIx, ixC] at q
   split at q
   ·rename_i c hc
    exact .inl ⟨l, i, c, repS r1, repI r2, sm10 z1, hc, q _ H (.refl _) rep_str (by show 1 ≤ 10000; decide)⟩
   ·exact (show False from q).elim
  | _ => exact (show False from q).elim
 | lst l =>
  cases d2 with
  | int i =>
   simp only [oIx, ixD] at q
   split at q
   ·rename_i d hd
    obtain ⟨p, xs, rfl, h1, h2⟩ := repL r1
    obtain ⟨v, hv, rv⟩ := reps_at h2 hd
    exact .inr (.inl ⟨p, xs, i, v, rfl, repI r2, hid_same.seq h1, hv, q v H (.refl _) rv (sms_mem z1.2 (atZ_mem hd))⟩)
   ·exact (show False from q).elim
  | _ => exact (show False from q).elim
 | tup l =>
  cases d2 with
  | int i =>
   simp only [oIx, ixD] at q
   split at q
   ·rename_i d hd
    obtain ⟨p, xs, rfl, h1, h2⟩ := repT r1
    obtain ⟨v, hv, rv⟩ := reps_at h2 hd
    exact .inr (.inr ⟨p, xs, i, v, rfl, repI r2, hid_same.seqT h1, hv, q v H (.refl _) rv (sms_mem z1.2 (atZ_mem hd))⟩)
   ·exact (show False from q).elim
  | _ => exact (show False from q).elim
 | _ => cases d2 <;> exact (show False from q).elim
theorem sIz_eq (n d : Nat) (o : Option Int) : HT.sIx n d o = sIz n d o := by cases o <;> rfl
theorem cutN_eq (l : List Nat) (lo hi : Option Int) : cutN l lo hi = cutZ l lo hi := by
 unfold cutN cutZ
 rw [sIz_eq, sIz_eq]
theorem reps_drop {K : PySem.W.Frag} {H : Hp} : ∀ (n : Nat) {ds : List Dt} {xs : List V}, Reps K H ds xs → Reps K H (ds.drop n) (xs.drop n)
 | 0, _, _, r => r
 | n + 1, [], _, r => by simp only [Reps] at r; subst r; exact .nil
 | n + 1, d :: ds, _, r => by
  simp only [Reps] at r
  obtain ⟨x, t, rfl, _, r2⟩ := r
  exact reps_drop n r2
theorem reps_take {K : PySem.W.Frag} {H : Hp} : ∀ (n : Nat) {ds : List Dt} {xs : List V}, Reps K H ds xs → Reps K H (ds.take n) (xs.take n)
 | 0, _, _, _ => .nil
 | n + 1, [], _, r => by simp only [Reps] at r; subst r; exact .nil
 | n + 1, d :: ds, _, r => by
  simp only [Reps] at r
  obtain ⟨x, t, rfl, r1, r2⟩ := r
  exact .cons r1 (reps_take n r2)
theorem cutZ_mem {α : Type} {l : List α} {lo hi : Option Int} {x : α} (h : x ∈ cutZ l lo hi) : x ∈ l := List.mem_of_mem_drop (List.mem_of_mem_take h)
theorem cutZ_length {α : Type} (l : List α) (lo hi : Option Int) : (cutZ l lo hi).length ≤ l.length := by
 unfold cutZ
 simp only [List.length_take, List.length_drop]
 omega
theorem ov_some {e : Expr} (he : Ev X cls E e f) : PO X (some e) (tMO X.K cls E (pPart (some f))) := (po_some he).imp fun σ H Q ⟨O, A, ρ, F, q⟩ => by
 refine ⟨O, A, ρ, F, Rg.bind q fun d _ q1 => ?_⟩
 intro v H1 s1 r1 z1
 cases d with
 | int i => exact ⟨i, repI r1, q1 H1 s1⟩
 | _ => exact (show False from q1).elim
theorem ev_slice {lo hi : Option Expr} {fl fh : Rho → M (Option Int)} {p2' : Pos} (he : Ev X cls E a f) (hl : PO X lo (tMO X.K cls E fl)) (hh : PO X hi (tMO X.K cls E fh)) : Ev X cls E (.Subscript a (.Slice lo hi none p2') pos) (pSlice f fl fh) :=
 (pe_slice (sl_S.or sl_list) he hl hh).imp fun σ H Q ⟨O, A, ρ, F, q⟩ => by
 refine ⟨O, A, ρ, F, Rg.bind q fun d _ q1 => ?_⟩
 intro v H1 s1 r1 z1
 refine ⟨O, A, ρ, F.mono s1, Rg.bind (Res.mono (Q := Q) q1 s1) fun o1 _ q2 => ?_⟩
 intro H2 s2
 refine ⟨O, A, ρ, (F.mono s1).mono s2, Rg.bind (Res.mono (Q := Q) q2 s2) fun o2 _ q3 => ?_⟩
 intro H3 s3
 have r3 := r1.mono ((s2.trans s3).hid A)
 cases d with
 | str l =>
  refine .inl ⟨l, repS r3, sm10 z1, ?_⟩
  rw [cutN_eq]
  exact q3 _ H3 s3 rep_str (Nat.le_trans (cutZ_length l o1 o2) z1)
 | lst l =>
  obtain ⟨p, xs, rfl, h1, h2⟩ := repL r3
  refine .inr ⟨p, xs, rfl, hid_same.seq h1, fun p' hp => ?_⟩
  have L3 : Liv H3 A := ((F.liv.mono s1).mono s2).mono s3
  have hl := h2.length
  have hr : Reps X.K (hid H3 A) (cutZ l o1 o2) (cutV xs o1 o2) := by
   unfold cutZ cutV
   rw [sIz_eq, sIz_eq, ← hl]
   exact reps_take _ (reps_drop _ h2)
  exact q3 (.ref p') _ (s3.trans (.upd hp)) (rep_lst (hid_new L3 hp) (hr.mono ((Same.upd hp).hid A))) ⟨Nat.le_trans (cutZ_length l o1 o2) z1.1, sms_of fun d hd => sms_mem z1.2 (cutZ_mem hd)⟩
 | _ => exact (show False from q3).elim
variable {fs : Rho → M (List Dt)} {es : List Expr}
theorem av_nil : Av X cls E [] aNil := pa_nil.imp fun σ H Q ⟨O, A, ρ, F, q⟩ => q [] H (.refl _) .nil trivial
theorem av_cons (hst : isStar a = false) (ha : Ev X cls E a f) (hr : Av X cls E es fs) : Av X cls E (a :: es) (aCons f fs) := (pax _ _ _ _ _ hst ha hr).imp fun σ H Q ⟨O, A, ρ, F, q⟩ => by
 refine ⟨O, A, ρ, F, Rg.bind q fun d _ q1 => ?_⟩
 intro v H1 s1 r1 z1
 refine ⟨O, A, ρ, F.mono s1, Rg.bind (ResA.mono (Q := Q) q1 s1) fun ds _ q2 => ?_⟩
 intro vs H2 s2 r2 z2
 exact q2 (v :: vs) H2 s2 (.cons (r1.mono (s2.hid A)) r2) ⟨z1, z2⟩
theorem ev_lst (h : Av X cls E es fs) : Ev X cls E (.List es pos) (pLst fs) := (pe_lst h).imp fun σ H Q ⟨O, A, ρ, F, q⟩ => by
 refine ⟨O, A, ρ, F, Rg.bind q fun ds _ q1 => ?_⟩
 intro vs H1 s1 r1 z1
 obtain ⟨h1, h2⟩ := szL_of (Res.mono (Q := Q) q1 s1) (F.liv.mono s1) r1 z1
 exact ⟨sm10 (by rw [← r1.length]; exact h1), h2⟩
theorem ev_tup {k} (h : Av X cls E es fs) : Ev X cls E (.Tuple es k pos) (pTup fs) := (pe_tup h).imp fun σ H Q ⟨O, A, ρ, F, q⟩ => by
 refine ⟨O, A, ρ, F, Rg.bind q fun ds _ q1 => ?_⟩
 intro vs H1 s1 r1 z1
 have q1' := Res.mono (Q := Q) q1 s1
 split at q1'
 ·rename_i hl
  refine ⟨sm10 (by rw [← r1.length]; exact hl), fun p hp => q1' (.ref p) _ (.upd hp) (rep_tup (hid_new (F.liv.mono s1) hp) (r1.mono ((Same.upd hp).hid A))) ⟨hl, z1⟩⟩
 ·exact (show False from q1').elim
theorem ev_rep {p2' : Pos} (h : Av X cls E es fs) (hg : Ev X cls E b g) : Ev X cls E (.BinOp (.List es p2') .Mult b pos) (pRep fs g) := (pe_op op_rep (pe_lst h) hg).imp fun σ H Q ⟨O, A, ρ, F, q⟩ => by
 refine ⟨O, A, ρ, F, Rg.bind q fun ds _ q1 => ?_⟩
 intro vs H1 s1 r1 z1
 have q1' := Res.mono (Q := Q) q1 s1
 split at q1'
 ·rename_i hl
  have hlen := r1.length
  refine ⟨sm10 (by omega), fun p hp => ?_⟩
  have s2 : Same H1 (upd H1 p (.lst vs)) := .upd hp
  refine ⟨O, A, ρ, (F.mono s1).mono s2, Rg.bind (Res.mono (Q := Q) q1' s2) fun d _ q3 => ?_⟩
  intro v H3 s3 r3 z3
  cases d with
  | int n =>
   simp only [repD] at q3
   split at q3
   ·rename_i hn
    refine ⟨p, n, vs, rfl, repI r3, s3 _ _ upd_same, by omega, by omega, sm10 (by rw [← hlen]; exact hn.2.2), fun p' hp' => ?_⟩
    have L3 : Liv H3 A := ((F.liv.mono s1).mono s2).mono s3
    have rr : ∀ k : Nat, Reps X.K (hid H3 A) (List.replicate k ds).flatten (List.replicate k vs).flatten := fun k => by
     induction k with
     | zero => exact .nil
     | succ k ih =>
      rw [List.replicate_succ, List.replicate_succ, List.flatten_cons, List.flatten_cons]
      exact (r1.mono ((s2.trans s3).hid A)).append ih
    refine q3 (.ref p') _ (s3.trans (.upd hp')) (rep_lst (hid_new L3 hp') ((rr _).mono ((Same.upd hp').hid A))) ⟨?_, sms_of fun d hd => ?_⟩
    ·rw [len_rep, Nat.mul_comm]
     exact hn.2.2
    ·obtain ⟨l, hl, hd⟩ := List.mem_flatten.mp hd
     rw [(List.mem_replicate.mp hl).2] at hd
     exact sms_mem z1 hd
   ·exact (show False from q3).elim
  | _ => exact (show False from q3).elim
 ·exact (show False from q1').elim
def CaD (X : Cx) (cls : Nat → Addr) (E : XK) (fv : Value) (F : List Dt → M Dt) : Prop :=
 ∃ r, CallR X fv r ∧ ∀ A H Q ds vs, Liv H A → Reps X.K (hid H A) ds vs → sms ds → Res X.K cls A E (F ds) H Q → r vs H Q
variable {F' : List Dt → M Dt}
theorem t_cb {r : List V → Hp → VK → Prop} (h : ∀ A H Q ds vs, Liv H A → Reps X.K (hid H A) ds vs → sms ds → Res X.K cls A E (F' ds) H Q → r vs H Q) (σ : St) (H : Hp) (Q : VK) (q : tM X.K cls E (pCall F' fs) σ H Q) : tCB r (tMA X.K cls E fs) σ H Q := by
 obtain ⟨O, A, ρ, F, q⟩ := q
 refine ⟨O, A, ρ, F, Rg.bind q fun ds _ q1 => ?_⟩
 intro vs H1 s1 r1 z1
 exact h A H1 Q ds vs (F.liv.mono s1) r1 z1 (Res.mono q1 s1)
theorem ev_callB {x : Str} {id : String} {p : Pos} (hc : CaD X cls E (.builtin id) F') (hg : Gl X x) (hm : X.mg x = none) (hv : bootBuiltins x = some (.builtin id)) (ha : Av X cls E (a :: es) fs) (hn : x ≠ "__name__" := by decide) (hdb : (x == ("__debug__" : Str)) = false := by decide)
  (he : starEach (a :: es) X.env = (false, eval a X.env) :: starEach es X.env := by rfl) (hpl : (backTo pos (starEach es X.env)).any (·.1) = false := by rfl) : Ev X cls E (.Call (.Name x p) (a :: es) [] pos) (pCall F' fs) := by
 obtain ⟨r, h1, h2⟩ := hc
 exact (pe_callB h1 hg hm hv ha hn hdb he hpl).imp (t_cb h2)
theorem ev_callTy {x : Str} {T : String} {p : Pos} (hc : CaD X cls E (.type T) F') (hg : Gl X x) (hm : X.mg x = none) (hv : bootBuiltins x = some (.type T)) (ha : Av X cls E (a :: es) fs) (hn : x ≠ "__name__" := by decide) (hdb : (x == ("__debug__" : Str)) = false := by decide)
  (he : starEach (a :: es) X.env = (false, eval a X.env) :: starEach es X.env := by rfl) (hpl : (backTo pos (starEach es X.env)).any (·.1) = false := by rfl) : Ev X cls E (.Call (.Name x p) (a :: es) [] pos) (pCall F' fs) := by
 obtain ⟨r, h1, h2⟩ := hc
 exact (pe_callTy h1 hg hm hv ha hn hdb he hpl).imp (t_cb h2)
theorem reps1 {K : PySem.W.Frag} {H : Hp} {d : Dt} {vs : List V} (h : Reps K H [d] vs) : ∃ v, vs = [v] ∧ Rep K H d v := by
 simp only [Reps] at h
 obtain ⟨x, r, rfl, h1, rfl⟩ := h
 exact ⟨x, rfl, h1⟩
theorem reps2 {K : PySem.W.Frag} {H : Hp} {d e : Dt} {vs : List V} (h : Reps K H [d, e] vs) : ∃ v w, vs = [v, w] ∧ Rep K H d v ∧ Rep K H e w := by
 simp only [Reps] at h
 obtain ⟨x, r, rfl, h1, y, t, rfl, h2, rfl⟩ := h
 exact ⟨x, y, rfl, h1, h2⟩
theorem cd_len : CaD X cls E (.builtin "len") bLen := by
 refine ⟨_, call_lenS.or call_len_seq, fun A H Q ds vs L r z q => ?_⟩
 unfold bLen at q
 split at q
 ·rename_i l
  obtain ⟨v, rfl, rv⟩ := reps1 r
  exact .inl ⟨l, by rw [repS rv], sm10 z.1, q _ H (.refl _) rep_int trivial⟩
 ·rename_i l
  obtain ⟨v, rfl, rv⟩ := reps1 r
  obtain ⟨p, xs, rfl, h1, h2⟩ := repL rv
  refine .inr ⟨p, xs, rfl, .inl (hid_same.seq h1), ?_⟩
  rw [← h2.length]
  exact q _ H (.refl _) rep_int trivial
 ·rename_i l
  obtain ⟨v, rfl, rv⟩ := reps1 r
  obtain ⟨p, xs, rfl, h1, h2⟩ := repT rv
  refine .inr ⟨p, xs, rfl, .inr (hid_same.seqT h1), ?_⟩
  rw [← h2.length]
  exact q _ H (.refl _) rep_int trivial
 ·exact (show False from q).elim
theorem bools_rep {K : PySem.W.Frag} {H : Hp} : ∀ {ds : List Dt} {bs : List Bool} {xs : List V}, bools ds = some bs → Reps K H ds xs → xs = bs.map V.bl
 | [], bs, xs, h, r => by
  simp only [Reps] at r
  simp only [bools, Option.some.injEq] at h
  subst r h
  rfl
 | d :: ds, bs, xs, h, r => by
  simp only [Reps] at r
  obtain ⟨x, t, rfl, r1, r2⟩ := r
  cases d with
  | bl b =>
   simp only [bools, Option.map_eq_some_iff] at h
   obtain ⟨cs, hc, rfl⟩ := h
   rw [bools_rep hc r2, List.map_cons]
   simp only [Rep] at r1
   rw [r1]
  | _ => simp [bools] at h
theorem cd_all (hc : X.calm = true) : CaD X cls E (.builtin "all") bAll := by
 refine ⟨_, call_allB hc, fun A H Q ds vs L r z q => ?_⟩
 unfold bAll at q
 split at q
 ·rename_i l
  obtain ⟨v, rfl, rv⟩ := reps1 r
  obtain ⟨p, xs, rfl, h1, h2⟩ := repL rv
  unfold blM at q
  split at q
  ·rename_i bs hb
   rw [bools_rep hb h2] at h1
   exact ⟨p, bs, rfl, hid_same.seq h1, q _ H (.refl _) rep_bl trivial⟩
  ·exact (show False from q).elim
 ·exact (show False from q).elim
theorem reps_sgs {K : PySem.W.Frag} {H : Hp} : ∀ l : List Nat, Reps K H (sgD l) (sgs l)
 | [] => .nil
 | c :: l => .cons rep_str (reps_sgs l)
theorem sms_sgD (l : List Nat) : sms (sgD l) := sms_of fun d hd => by
 obtain ⟨c, _, rfl⟩ := List.mem_map.mp hd
 show 1 ≤ 10000
 decide
theorem cd_list (hc : X.calm = true) : CaD X cls E (.type "list") bList := by
 refine ⟨_, (call_listS hc).or call_list_of, fun A H Q ds vs L r z q => ?_⟩
 unfold bList at q
 split at q
 ·rename_i l
  obtain ⟨v, rfl, rv⟩ := reps1 r
  obtain ⟨p, xs, rfl, h1, h2⟩ := repL rv
  exact .inr ⟨p, xs, rfl, .inl (hid_same.seq h1), fun p' hp => q _ _ (.upd hp) (rep_lst (hid_new L hp) (h2.mono ((Same.upd hp).hid A))) z.1⟩
 ·rename_i l
  obtain ⟨v, rfl, rv⟩ := reps1 r
  obtain ⟨p, xs, rfl, h1, h2⟩ := repT rv
  exact .inr ⟨p, xs, rfl, .inr (hid_same.seqT h1), fun p' hp => q _ _ (.upd hp) (rep_lst (hid_new L hp) (h2.mono ((Same.upd hp).hid A))) z.1⟩
 ·rename_i l
  obtain ⟨v, rfl, rv⟩ := reps1 r
  exact .inl ⟨l, by rw [repS rv], sm10 z.1, fun p hp => q _ _ (.upd hp) (rep_lst (hid_new L hp) (reps_sgs l)) ⟨by rw [sgD, List.length_map]; exact z.1, sms_sgD l⟩⟩
 ·exact (show False from q).elim
def spM (K : PySem.W.Frag) (cls : Nat → Addr) (F : List Dt → M Dt) : Sp := fun vs H Q E => ∃ A ds, Liv H A ∧ Reps K (hid H A) ds vs ∧ sms ds ∧ Res K cls A E (F ds) H Q
theorem ev_cal {k : Nat} {x : Str} {ps : List Str} {p : Pos} {CX : CXT} (C : Cal X.prog X.w X.K X.mg X.base CX k x ps (spM X.K cls F')) (hr : Room k X.A) (hx : Passes CX X E) (ha : Av X cls E (a :: es) fs) (hst : isStar a = false := by rfl) (hg : Gl X x := by rfl)
  (hdb : (x == ("__debug__" : Str)) = false := by decide) (hpl : (backTo pos (starEach es X.env)).any (·.1) = false := by rfl) : Ev X cls E (.Call (.Name x p) (a :: es) [] pos) (pCall F' fs) :=
 (pe_cal C hr hx ha hst hg hdb hpl).imp fun σ H Q ⟨O, A, ρ, F, q⟩ => by
 refine ⟨O, A, ρ, F, Rg.bind q fun ds _ q1 => ?_⟩
 intro vs H1 s1 r1 z1
 rw [List.append_nil]
 exact ⟨A, ds, F.liv.mono s1, r1, z1, Res.mono q1 s1⟩
def MtD (X : Cx) (cls : Nat → Addr) (E : XK) (T id : String) (m : Sel) : Prop :=
 ∃ r, MtR X id r ∧ (∀ H d k x, m d = some k → Rep X.K H d x → tyV X.K T x H) ∧ ∀ A H Q d k x ds vs, m d = some k → Liv H A → Rep X.K (hid H A) d x → sm d → Reps X.K (hid H A) ds vs → sms ds → Res X.K cls A E (k ds) H Q → r x vs H Q
theorem t_bm {T : String} {m : Sel} {r : V → List V → Hp → VK → Prop} (h1 : ∀ H d k x, m d = some k → Rep X.K H d x → tyV X.K T x H)
  (h2 : ∀ A H Q d k x ds vs, m d = some k → Liv H A → Rep X.K (hid H A) d x → sm d → Reps X.K (hid H A) ds vs → sms ds → Res X.K cls A E (k ds) H Q → r x vs H Q) (σ : St) (H : Hp) (Q : VK) (q : tM X.K cls E (pMeth m f fs) σ H Q) :
  tBM X.K T r (tM X.K cls E f) (tMA X.K cls E fs) σ H Q := by
 obtain ⟨O, A, ρ, F, q⟩ := q
 refine ⟨O, A, ρ, F, Rg.bind q fun d _ q1 => ?_⟩
 intro v H1 s1 r1 z1
 have q1' := Res.mono (Q := Q) q1 s1
 cases hk : m d with
 | none => rw [hk] at q1'; exact (show False from q1').elim
 | some k =>
  rw [hk] at q1'
  have q2' : Res X.K cls A E ((fs ρ).bd k) H1 Q := q1'
  refine ⟨h1 H1 d k v hk (r1.mono hid_same), O, A, ρ, F.mono s1, Rg.bind q2' fun ds _ q2 => ?_⟩
  intro vs H2 s2 r2 z2
  exact h2 A H2 Q d k v ds vs hk ((F.liv.mono s1).mono s2) (r1.mono (s2.hid A)) z1 r2 z2 (Res.mono q2 s2)
theorem ev_bm {T name id : String} {m : Sel} {apos : Pos} {o : Expr} (pa : PlainAttrs T) (slot : Slot T name id) (hty : typeOf (.builtin id) = pure (.type "method_descriptor")) (hm : MtD X cls E T id m) (ho : Ev X cls E o f) (ha : Av X cls E (a :: es) fs)
  (hbase : attributeBase o name X.env (eval o X.env) = eval o X.env := by rfl)
  (hfew : ((backTo pos (starEach (a :: es) X.env)).all (fun x => !x.1) && (backToKw pos (keywordEach [] X.env)).all (fun x => x.1.isSome)
   && decide ((a :: es).length + ([] : List Keyword).length + (if ([] : List Keyword).isEmpty then 0 else 1) < 30)) = true := by rfl)
  (hline : (apos.endLine == pos.line) = true := by rfl) (hs : starEach (a :: es) X.env = (false, eval a X.env) :: starEach es X.env := by rfl) (hplain : (backTo pos (starEach es X.env)).any (·.1) = false := by rfl) :
  Ev X cls E (.Call (.Attribute o name apos) (a :: es) [] pos) (pMeth m f fs) := by
 obtain ⟨r, h0, h1, h2⟩ := hm
 exact (pe_bm pa slot hty h0 ho ha hbase hfew hline hs hplain).imp (t_bm h1 h2)
theorem strs_rep {K : PySem.W.Frag} {H : Hp} : ∀ {ds : List Dt} {ls : List (List Nat)} {xs : List V}, strsM ds = some ls → Reps K H ds xs → xs = ls.map S
 | [], bs, xs, h, r => by
  simp only [Reps] at r
  simp only [strsM, Option.some.injEq] at h
  subst r h
  rfl
 | d :: ds, bs, xs, h, r => by
  simp only [Reps] at r
  obtain ⟨x, t, rfl, r1, r2⟩ := r
  cases d with
  | str l =>
   simp only [strsM, Option.map_eq_some_iff] at h
   obtain ⟨cs, hc, rfl⟩ := h
   rw [strs_rep hc r2, List.map_cons]
   simp only [Rep] at r1
   rw [r1]
  | _ => simp [strsM] at h
theorem md_join : MtD X cls E "str" "str.join" mJoin := by
 refine ⟨_, mt_joinS, fun H d k x hk r => ?_, fun A H Q d k x ds vs hk L r z rs zs q => ?_⟩
 ·unfold mJoin at hk
  split at hk
  ·rw [repS r]; rfl
  ·cases hk
 ·unfold mJoin at hk
  split at hk
  ·injection hk with hk
   subst hk
   unfold joinM at q
   split at q
   ·rename_i l
    obtain ⟨v, rfl, rv⟩ := reps1 rs
    obtain ⟨p, xs, rfl, h1, h2⟩ := repL rv
    unfold jnM at q
    split at q
    ·rename_i ls hls
     rw [strs_rep hls h2] at h1
     obtain ⟨h, q⟩ := szS_of q
     exact ⟨p, ls, repS r, rfl, hid_same.seq h1, h, q⟩
    ·exact (show False from q).elim
   ·exact (show False from q).elim
  ·cases hk
structure ItD (K : PySem.W.Frag) (A : List Addr) (J : It) (ds : List Dt) (H1 : Hp) : Prop where
 go : ∀ i H, i < ds.length → Same (hid H1 A) H → J.go i H
 stop : ∀ H, Same (hid H1 A) H → J.stop ds.length H
 yl : ∀ i H x H' A', i < ds.length → Liv H A' → Same (hid H1 A) (hid H A') → J.yld i H x H' → Same H H' ∧ ∃ d, ds[i]? = some d ∧ Rep K (hid H' A') d x
 small : sms ds
 few : ds.length ≤ 10000
def iM (K : PySem.W.Frag) (cls : Nat → Addr) (E : XK) (ι : IM) : TI := fun σ H R => ∃ O A ρ, Fit K O A ρ σ H ∧ Rg cls E (ι ρ) H fun ds => ∀ J H', Same H H' → ItD K A J ds H' → R J H'
abbrev Iv (X : Cx) (cls : Nat → Addr) (E : XK) (tg e : Expr) (ι : IM) : Prop := PI X tg e (iM X.K cls E ι)
theorem PI.imp {tg e : Expr} {t t' : TI} (h : PI X tg e t') (i : ∀ σ H R, t σ H R → t' σ H R) : PI X tg e t := fun pins s σ H R I hw => h pins s σ H R I (i σ H R hw)
theorem PI.or {tg e : Expr} {t t' : TI} (h : PI X tg e t) (h' : PI X tg e t') : PI X tg e (fun σ H R => t σ H R ∨ t' σ H R) := fun pins s σ H R I hw => by
 rcases hw with hw | hw
 ·exact h pins s σ H R I hw
 ·exact h' pins s σ H R I hw
theorem itd_list {K : PySem.W.Frag} {A : List Addr} {a : Addr} {ds : List Dt} {xs : List V} {H1 : Hp} (h1 : SqL K (hid H1 A) a xs) (h2 : Reps K (hid H1 A) ds xs) (z : sms ds) (zl : ds.length ≤ 10000) : ItD K A (Itl K a) ds H1 := by
 have hl := h2.length
 refine ⟨fun i H hi s => ⟨xs, xs[i]'(by omega), s.seq h1, by simp⟩, fun H s => ⟨xs, s.seq h1, by omega⟩, fun i H x H' A' hi L s y => ?_, z, zl⟩
 obtain ⟨e, hx⟩ := y
 subst e
 have hx' := hx xs ((s.trans hid_same).seq h1)
 obtain ⟨d, hd, rd⟩ := h2.get hx'
 exact ⟨.refl _, d, hd, rd.mono s⟩
theorem itd_tup {K : PySem.W.Frag} {A : List Addr} {a : Addr} {ds : List Dt} {xs : List V} {H1 : Hp} (h1 : SqT K (hid H1 A) a xs) (h2 : Reps K (hid H1 A) ds xs) (z : sms ds) (zl : ds.length ≤ 10000) : ItD K A (Itt K a) ds H1 := by
 have hl := h2.length
 refine ⟨fun i H hi s => ⟨xs, xs[i]'(by omega), s.seqT h1, by simp⟩, fun H s => ⟨xs, s.seqT h1, by omega⟩, fun i H x H' A' hi L s y => ?_, z, zl⟩
 obtain ⟨e, hx⟩ := y
 subst e
 have hx' := hx xs ((s.trans hid_same).seqT h1)
 obtain ⟨d, hd, rd⟩ := h2.get hx'
 exact ⟨.refl _, d, hd, rd.mono s⟩
theorem itd_f {K : PySem.W.Frag} {A : List Addr} {ds : List Dt} {xs : List V} {H1 : Hp} (h2 : Reps K (hid H1 A) ds xs) (z : sms ds) (zl : ds.length ≤ 10000) : ItD K A (Itf xs) ds H1 := by
 have hl := h2.length
 refine ⟨fun i H hi s => by show i < xs.length; omega, fun H s => by show xs.length ≤ ds.length; omega, fun i H x H' A' hi L s y => ?_, z, zl⟩
 obtain ⟨e, hx⟩ := y
 subst e
 obtain ⟨d, hd, rd⟩ := h2.get hx
 exact ⟨.refl _, d, hd, rd.mono s⟩
theorem iv_of {tg e : Expr} (he : Ev X cls E e f) : Iv X cls E tg e (iOf f) := by
 refine ((pi_list he).or ((pi_tup he).or (pi_str he))).imp fun σ H R ⟨O, A, ρ, F, q⟩ => ?_
 cases hm : f ρ with
 | bad =>
  unfold iOf at q
  rw [hm] at q
  exact (show False from q).elim
 | ex c =>
  refine .inl ⟨O, A, ρ, F, ?_⟩
  unfold iOf at q
  rw [hm] at q ⊢
  exact q
 | ok d =>
  have q' : Rg cls E (seqM d) H fun ds => ∀ J H', Same H H' → ItD X.K A J ds H' → R J H' := by
   unfold iOf at q
   rw [hm] at q
   exact q
  cases d with
  | lst l =>
   refine .inl ⟨O, A, ρ, F, ?_⟩
   rw [hm]
   intro v H1 s1 r1 z1
   obtain ⟨p, xs, rfl, h1, h2⟩ := repL r1
   exact ⟨p, rfl, ⟨xs, hid_same.seq h1⟩, q' _ H1 s1 (itd_list h1 h2 z1.2 z1.1)⟩
  | tup l =>
   refine .inr (.inl ⟨O, A, ρ, F, ?_⟩)
   rw [hm]
   intro v H1 s1 r1 z1
   obtain ⟨p, xs, rfl, h1, h2⟩ := repT r1
   exact ⟨p, rfl, ⟨xs, hid_same.seqT h1⟩, q' _ H1 s1 (itd_tup h1 h2 z1.2 z1.1)⟩
  | str l =>
   refine .inr (.inr ⟨O, A, ρ, F, ?_⟩)
   rw [hm]
   intro v H1 s1 r1 z1
   exact ⟨l, repS r1, q' _ H1 s1 (itd_f (reps_sgs l) (sms_sgD l) (by rw [sgD, List.length_map]; exact z1))⟩
  | _ => exact (show False from q').elim
theorem itd_r {K : PySem.W.Frag} {A : List Addr} {lo hi : Int} {H1 : Hp} (zl : (hi - lo).toNat ≤ 10000) : ItD K A (Itr lo (hi - lo).toNat) (rngD lo hi) H1 := by
 have hl : (rngD lo hi).length = (hi - lo).toNat := by simp [rngD]
 refine ⟨fun i H hi s => by show i < (_ : Nat); omega, fun H s => by show (_ : Nat) ≤ _; omega, fun i H x H' A' hi' L s y => ?_, sms_of fun d hd => ?_, by omega⟩
 ·obtain ⟨e, hx⟩ := y
  subst e hx
  refine ⟨.refl _, .int (lo + (i : Nat)), ?_, rep_int⟩
  rw [hl] at hi'
  simp [rngD, hi']
 ·obtain ⟨k, _, rfl⟩ := List.mem_map.mp hd
  trivial
theorem iv_range1 {tg : Expr} {p : Pos} (hg : Gl X "range") (hm : X.mg "range" = none) (ha : Av X cls E [a] fs) (hs : starEach [a] X.env = [(false, eval a X.env)] := by rfl) : Iv X cls E tg (.Call (.Name "range" p) [a] [] pos) (iBy rng1M fs) :=
 (pi_range1 hg hm ha hs).imp fun σ H R ⟨O, A, ρ, F, q⟩ => by
 refine ⟨O, A, ρ, F, Rg.bind q fun ds hds q1 => ?_⟩
 clear hds
 intro vs H1 s1 r1 z1
 unfold rng1M at q1
 split at q1
 ·rename_i n
  split at q1
  ·rename_i hn
   obtain ⟨v, rfl, rv⟩ := reps1 r1
   refine ⟨n, by rw [repI rv], by omega, by omega, ?_⟩
   have e : n.toNat = (n - 0).toNat := by omega
   rw [e]
   exact q1 _ H1 s1 (itd_r (by omega))
  ·exact (show False from q1).elim
 ·exact (show False from q1).elim
theorem iv_range2 {tg : Expr} {p : Pos} (hg : Gl X "range") (hm : X.mg "range" = none) (ha : Av X cls E [a, b] fs) (hs : starEach [a, b] X.env = [(false, eval a X.env), (false, eval b X.env)] := by rfl) (hs2 : starEach [b] X.env = [(false, eval b X.env)] := by rfl) :
  Iv X cls E tg (.Call (.Name "range" p) [a, b] [] pos) (iBy rng2M fs) :=
 (pi_range2 hg hm ha hs hs2).imp fun σ H R ⟨O, A, ρ, F, q⟩ => by
 refine ⟨O, A, ρ, F, Rg.bind q fun ds hds q1 => ?_⟩
 clear hds
 intro vs H1 s1 r1 z1
 unfold rng2M at q1
 split at q1
 ·rename_i i j
  split at q1
  ·rename_i hn
   obtain ⟨v, w, rfl, rv, rw'⟩ := reps2 r1
   refine ⟨i, j, by rw [repI rv, repI rw'], ⟨by omega, by omega, by omega, by omega⟩, ?_⟩
   exact q1 _ H1 s1 (itd_r (by omega))
  ·exact (show False from q1).elim
 ·exact (show False from q1).elim
end
def gM (K : PySem.W.Frag) (g : GM) : TG := fun v σ H Q => ∃ O A ρ d, Fit K O A ρ σ H ∧ Rep K (hid H A) d v ∧ sm d ∧ ∃ ρ', g d ρ = .ok ρ' ∧ ∀ σ', Fit K O A ρ' σ' H → Q σ' H
def gsM (K : PySem.W.Frag) (g : List Dt → Rho → M Rho) : TGs := fun vs σ H Q => ∃ O A ρ ds, Fit K O A ρ σ H ∧ Reps K (hid H A) ds vs ∧ sms ds ∧ ∃ ρ', g ds ρ = .ok ρ' ∧ ∀ σ', Fit K O A ρ' σ' H → Q σ' H
theorem PG.imp {X : Cx} {e : Expr} {t t' : TG} (h : PG X e t') (i : ∀ v σ H Q, t v σ H Q → t' v σ H Q) : PG X e t := fun pins s σ H v u Q I r hw => h pins s σ H v u Q I r (i v σ H Q hw)
theorem PGs.imp {X : Cx} {e : List Expr} {t t' : TGs} (h : PGs X e t') (i : ∀ v σ H Q, t v σ H Q → t' v σ H Q) : PGs X e t := fun pins s σ H v u Q I r hw => h pins s σ H v u Q I r (i v σ H Q hw)
theorem Fit.put {K : PySem.W.Frag} {O A : List Addr} {ρ : Rho} {σ : St} {H : Hp} (F : Fit K O A ρ σ H) (i : Nat) {d : Dt} {v : V} (r : Rep K (hid H A) d v) (z : sm d) : Fit K O A (putV i d ρ) (σ.set i (some v)) H := by
 unfold putV
 have hl := F.len
 refine ⟨by simp [hl], F.liv, F.sub, fun j e h => ?_, fun j ds h => ?_, fun j k ds es a hjk h1 h2 h3 => ?_⟩
 ·by_cases hj : j = i
  ·subst hj
   have hlt : j < ρ.length := by
    have := (List.getElem?_eq_some_iff.mp h).1
    simpa using this
   rw [List.getElem?_set_self hlt] at h
   cases h
   exact ⟨v, List.getElem?_set_self (by omega), r, z⟩
  ·rw [List.getElem?_set_ne (Ne.symm hj)] at h ⊢
   exact F.val j e h
 ·by_cases hj : j = i
  ·subst hj
   have hlt : j < ρ.length := by
    have := (List.getElem?_eq_some_iff.mp h).1
    simpa using this
   rw [List.getElem?_set_self hlt] at h
   cases h
  ·rw [List.getElem?_set_ne (Ne.symm hj)] at h ⊢
   exact F.own j ds h
 ·have no : ∀ (m : Nat) es, (ρ.set i (.val d))[m]? = some (.own es) → m ≠ i := fun m es h e => by
   subst e
   have hlt : m < ρ.length := by
    have := (List.getElem?_eq_some_iff.mp h).1
    simpa using this
   rw [List.getElem?_set_self hlt] at h
   cases h
  have n1 := no _ _ h1
  have n2 := no _ _ h2
  rw [List.getElem?_set_ne (Ne.symm n1)] at h1 h3
  rw [List.getElem?_set_ne (Ne.symm n2)] at h2 ⊢
  exact F.apart j k ds es a hjk h1 h2 h3
section
variable {X : Cx} {cls : Nat → Addr} {E : XK} {a b c : Expr} {f g h : Rho → M Dt} {pos : Pos} {fs : Rho → M (List Dt)} {es : List Expr}
theorem gv_name {i : Nat} {x : Str} (h : PG X (.Name x pos) (gName i)) : PG X (.Name x pos) (gM X.K (gNm i)) := h.imp fun v σ H Q ⟨O, A, ρ, d, F, r, z, ρ', e, q⟩ => by
 cases e
 exact q _ (F.put i r z)
theorem gvs_nil : PGs X [] (gsM X.K gZn) := pgs_nil.imp fun v σ H Q ⟨O, A, ρ, ds, F, r, z, ρ', e, q⟩ => by
 cases ds with
 | nil =>
  cases e
  simp only [Reps] at r
  exact ⟨r, q _ F⟩
 | cons d ds => cases e
theorem gvs_cons {g : GM} {gs : List Dt → Rho → M Rho} (h1 : PG X a (gM X.K g)) (h2 : PGs X es (gsM X.K gs)) (hs : (assignEach (a :: es) X.env).map (·.2) = assign a X.env :: (assignEach es X.env).map (·.2) := by rfl) : PGs X (a :: es) (gsM X.K (gZc g gs)) := (pgs_cons h1 h2 hs).imp fun v σ H Q ⟨O, A, ρ, ds, F, r, z, ρ', e, q⟩ => by
 cases ds with
 | nil => cases e
 | cons d ds =>
  simp only [Reps] at r
  obtain ⟨x, t, rfl, r1, r2⟩ := r
  simp only [gZc] at e
  cases hg : g d ρ with
  | ok ρ1 =>
   rw [hg] at e
   exact ⟨x, t, rfl, O, A, ρ, d, F, r1, z.1, ρ1, hg, fun σ1 F1 => ⟨O, A, ρ1, ds, F1, r2, z.2, ρ', e, q⟩⟩
  | ex c => rw [hg] at e; cases e
  | bad => rw [hg] at e; cases e
def gTupL (K : PySem.W.Frag) (n : Nat) (t : TGs) : TG := fun v σ H Q => ∃ a xs, v = .ref a ∧ SqL K H a xs ∧ xs.length = n ∧ t xs σ H Q
theorem pg_tupL {k : Nat} {t : TGs} {n : Nat} (hc : X.calm = true) (h : PGs X es t) (hn : (assignEach es X.env).length = n) (hst : (assignEach es X.env).findIdx? (·.1) = none) : PG X (.Tuple es k pos) (gTupL X.K n t) := by
 intro pins s σ H v u Q I r hw
 obtain ⟨a, xs, e1, hq, hl, hw⟩ := hw
 subst e1
 cases r
 obtain ⟨its, rv, pl, hz⟩ := I.list hq
 rw [assign_Tuple]
 refine wpAny_bind (wpAny_standAt ?_)
 unfold unpack
 rw [hst, show (assignEach es X.env).length = its.toArray.size by simp [hn, ← hl, rv.length]]
 refine wpAny_bind (wpAny_holding (kun_itemsOf (I.ok.hd hc) pl.isList fun h' hx => ?_))
 have I1 : Inv X pins σ H { s with heap := h' } := I.kept (t' := s.toks) fun b o e => hx b o (Nat.ne_of_lt (Heap.lt_size e)) e
 exact h pins _ σ H xs _ Q I1 (by simpa using rv) hw
theorem PG.or {e : Expr} {t t' : TG} (h : PG X e t) (h' : PG X e t') : PG X e (fun v σ H Q => t v σ H Q ∨ t' v σ H Q) := fun pins s σ H v u Q I r hw => by
 rcases hw with hw | hw
 ·exact h pins s σ H v u Q I r hw
 ·exact h' pins s σ H v u Q I r hw
theorem gv_tup {k n : Nat} {gs : List Dt → Rho → M Rho} (hc : X.calm = true) (h : PGs X es (gsM X.K gs)) (hn : (assignEach es X.env).length = n := by rfl) (hst : (assignEach es X.env).findIdx? (·.1) = none := by rfl) : PG X (.Tuple es k pos) (gM X.K (gTp n gs)) := by
 refine ((pg_tup hc h hn hst).or (pg_tupL hc h hn hst)).imp fun v σ H Q ⟨O, A, ρ, d, F, r, z, ρ', e, q⟩ => ?_
 cases d with
 | tup ds =>
  simp only [gTp] at e
  split at e
  ·rename_i hl
   obtain ⟨p, xs, rfl, h1, h2⟩ := repT r
   exact .inl ⟨p, xs, rfl, hid_same.seqT h1, by rw [← h2.length]; exact hl, O, A, ρ, ds, F, h2, z.2, ρ', e, q⟩
  ·cases e
 | lst ds =>
  simp only [gTp] at e
  split at e
  ·rename_i hl
   obtain ⟨p, xs, rfl, h1, h2⟩ := repL r
   exact .inr ⟨p, xs, rfl, hid_same.seq h1, by rw [← h2.length]; exact hl, O, A, ρ, ds, F, h2, z.2, ρ', e, q⟩
  ·cases e
 | _ => cases e
end
def GK (k : Nat) (g : GM) : Prop := ∀ d ρ ρ', g d ρ = .ok ρ' → ρ'.length = ρ.length ∧ ∀ i, k ≤ i → ρ'[i]? = ρ[i]?
def GKs (k : Nat) (g : List Dt → Rho → M Rho) : Prop := ∀ d ρ ρ', g d ρ = .ok ρ' → ρ'.length = ρ.length ∧ ∀ i, k ≤ i → ρ'[i]? = ρ[i]?
theorem gk_nm {k i : Nat} (h : i < k) : GK k (gNm i) := fun d ρ ρ' e => by
 cases e
 refine ⟨by simp [putV], fun j hj => ?_⟩
 unfold putV
 rw [List.getElem?_set_ne (by omega)]
theorem gks_nil {k : Nat} : GKs k gZn := fun ds ρ ρ' e => by
 cases ds with
 | nil => cases e; exact ⟨rfl, fun _ _ => rfl⟩
 | cons d ds => cases e
theorem gks_cons {k : Nat} {g : GM} {gs : List Dt → Rho → M Rho} (h1 : GK k g) (h2 : GKs k gs) : GKs k (gZc g gs) := fun ds ρ ρ' e => by
 cases ds with
 | nil => cases e
 | cons d ds =>
  simp only [gZc] at e
  cases hg : g d ρ with
  | ok ρ1 =>
   rw [hg] at e
   obtain ⟨a1, a2⟩ := h1 d ρ ρ1 hg
   obtain ⟨b1, b2⟩ := h2 ds ρ1 ρ' e
   exact ⟨b1.trans a1, fun i hi => (b2 i hi).trans (a2 i hi)⟩
  | ex c => rw [hg] at e; cases e
  | bad => rw [hg] at e; cases e
theorem gk_tp {k n : Nat} {gs : List Dt → Rho → M Rho} (h : GKs k gs) : GK k (gTp n gs) := fun d ρ ρ' e => by
 cases d with
 | tup ds =>
  simp only [gTp] at e
  split at e
  ·exact h ds ρ ρ' e
  ·cases e
 | lst ds =>
  simp only [gTp] at e
  split at e
  ·exact h ds ρ ρ' e
  ·cases e
 | _ => cases e
theorem startR_len (k : Nat) (fr : List Nat) (ρ : Rho) : (startR k fr ρ).length = k + fr.length := by simp [startR]
theorem startR_no {k : Nat} {fr : List Nat} {ρ : Rho} {i : Nat} (h : i < k) : (startR k fr ρ)[i]? = some .no := by
 unfold startR
 rw [List.getElem?_append_left (by simpa using h)]
 simp [h]
theorem startR_val {k : Nat} {fr : List Nat} {ρ : Rho} {i : Nat} {b : Bd} (h : (startR k fr ρ)[i]? = some b) : b = .no ∨ ∃ j m d, i = k + j ∧ fr[j]? = some m ∧ ρ[m]? = some (.val d) ∧ b = .val d := by
 by_cases hi : i < k
 ·rw [startR_no hi] at h
  cases h
  exact .inl rfl
 ·unfold startR at h
  rw [List.getElem?_append_right (by simp; omega)] at h
  simp only [List.length_replicate, List.getElem?_map, Option.map_eq_some_iff] at h
  obtain ⟨m, hm, hb⟩ := h
  unfold vOnly at hb
  split at hb
  ·rename_i d hd
   exact .inr ⟨i - k, m, d, by omega, hm, hd, hb.symm⟩
  ·exact .inl hb.symm
theorem Fit.startC {K : PySem.W.Frag} {O A : List Addr} {ρ : Rho} {σ : St} {H : Hp} (F : Fit K O A ρ σ H) (k : Nat) (fr : List Nat) : Fit K O A (startR k fr ρ) (L2.startC k fr σ) H := by
 refine ⟨by rw [startR_len]; simp [L2.startC], F.liv, F.sub, fun i d h => ?_, fun i ds h => ?_, fun i j ds es a _ h => ?_⟩
 ·rcases startR_val h with z | ⟨j, m, d', rfl, hm, hd, z⟩
  ·cases z
  ·cases z
   obtain ⟨v, h1, h2, h3⟩ := F.val m d hd
   refine ⟨v, ?_, h2, h3⟩
   unfold L2.startC
   rw [List.getElem?_append_right (by simp)]
   simp [hm, h1]
 ·rcases startR_val h with z | ⟨j, m, d', _, _, _, z⟩ <;> cases z
 ·rcases startR_val h with z | ⟨j, m, d', _, _, _, z⟩ <;> cases z
theorem Fit.back {K : PySem.W.Frag} {O A : List Addr} {ρ ρ0 : Rho} {σ : St} {H : Hp} (F : Fit K O A ρ σ H) (hl : ρ.length = ρ0.length) (hv : ∀ (i : Nat) d, ρ0[i]? = some (.val d) → ρ[i]? = some (.val d)) (ho : ∀ (i : Nat) ds, ρ0[i]? ≠ some (.own ds)) : Fit K O A ρ0 σ H :=
 ⟨by rw [← hl]; exact F.len, F.liv, F.sub, fun i d h => F.val i d (hv i d h), fun i ds h => (ho i ds h).elim, fun i _ ds _ _ _ h => (ho i ds h).elim⟩
theorem Liv.cons {H : Hp} {A : List Addr} {D : Addr} {o : HO} (h : Liv H A) (hD : H D = some o) : Liv H (D :: A) := fun a ha => by
 rcases List.mem_cons.mp ha with z | z
 ·subst z; rw [hD]; simp
 ·exact h a z
theorem hid_upd_in {H : Hp} {A : List Addr} {D : Addr} {o : HO} (h : D ∈ A) : hid (upd H D o) A = hid H A := by
 funext b
 unfold hid
 by_cases hb : b ∈ A
 ·rw [if_pos hb, if_pos hb]
 ·rw [if_neg hb, if_neg hb]
  exact upd_ne fun z => hb (z ▸ h)
theorem comM_cons {g : GM} {tc : Rho → M Bool} {te : Rho → M Dt} {ρ0 : Rho} {d : Dt} {ds : List Dt} {xs : List Dt} (h : comM g tc te ρ0 (d :: ds) = .ok xs) :
  ∃ ρ1, g d ρ0 = .ok ρ1 ∧ ((tc ρ1 = .ok false ∧ comM g tc te ρ0 ds = .ok xs) ∨ (tc ρ1 = .ok true ∧ ∃ x ys, te ρ1 = .ok x ∧ comM g tc te ρ0 ds = .ok ys ∧ xs = x :: ys)) := by
 simp only [comM] at h
 cases hg : g d ρ0 with
 | ok ρ1 =>
  rw [hg] at h
  simp only [bd_ok] at h
  refine ⟨ρ1, rfl, ?_⟩
  cases ht : tc ρ1 with
  | ok b =>
   rw [ht] at h
   simp only [bd_ok] at h
   cases b with
   | false => exact .inl ⟨rfl, h⟩
   | true =>
    simp only [if_true] at h
    cases hx : te ρ1 with
    | ok x =>
     rw [hx] at h
     simp only [bd_ok] at h
     cases hr : comM g tc te ρ0 ds with
     | ok ys => rw [hr] at h; simp only [bd_ok] at h; cases h; exact .inr ⟨rfl, x, ys, rfl, rfl, rfl⟩
     | ex c => rw [hr] at h; cases h
     | bad => rw [hr] at h; cases h
    | ex c => rw [hx] at h; cases h
    | bad => rw [hx] at h; cases h
  | ex c => rw [ht] at h; cases h
  | bad => rw [ht] at h; cases h
 | ex c => rw [hg] at h; cases h
 | bad => rw [hg] at h; cases h
theorem rd_comp {K : PySem.W.Frag} {cls : Nat → Addr} {k : Nat} {fr : List Nat} {g : GM} {tc : Rho → M Bool} {te : Rho → M Dt} {O A : List Addr} {ρ : Rho} {σ : St} {J : It} {H1 : Hp} {Q : VK} {ds xs : List Dt} (F : Fit K O A ρ σ H1) (hk : GK k g) (hJ : ItD K A J ds H1)
  (hx : comM g tc te (startR k fr ρ) ds = .ok xs) (fin : ∀ v H', Same H1 H' → Rep K (hid H' A) (.lst xs) v → sms xs → xs.length ≤ 10000 → Q v H') : rdComp k fr (gM K g) (tMB K cls E0 tc) (tM K cls E0 te) σ J H1 Q := by
 intro D hD
 have hDA : D ∉ A := F.liv.fresh hD
 have ho : ∀ (i : Nat) ds, (startR k fr ρ)[i]? ≠ some (.own ds) := fun i ds h => by
  rcases startR_val h with z | ⟨j, m, d', _, _, _, z⟩ <;> cases z
 have s0 : Same H1 (upd H1 D (.lst [])) := .upd hD
 have sD : ∀ {H'}, Same H1 H' → Same (hid H1 A) (hid H' (D :: A)) := fun {H'} s b o e => by
  obtain ⟨h1, h2⟩ := of_hid e
  have hb : b ∉ D :: A := fun z => by
   rcases List.mem_cons.mp z with z | z
   ·subst z; rw [hD] at h2; cases h2
   ·exact h1 z
  rw [hid_ne hb]
  exact s b o h2
 have FD : Fit K [] (D :: A) (startR k fr ρ) (startC k fr σ) (upd H1 D (.lst [])) := by
  have F1 := F.startC k fr
  refine ⟨F1.len, (F.liv.mono s0).cons upd_same, (fun a z => nomatch z), fun i d h => ?_, fun i ds h => (ho i ds h).elim, fun i _ ds _ _ _ h => (ho i ds h).elim⟩
  obtain ⟨v, h1, h2, h3⟩ := F1.val i d h
  exact ⟨v, h1, h2.mono (sD s0), h3⟩
 refine ⟨fun i m ys σ' H' => i ≤ ds.length ∧ m = ds.length - i ∧ H' D = some (.lst ys) ∧ Same H1 H' ∧ Fit K [] (D :: A) (startR k fr ρ) σ' H' ∧ ∃ us ws, comM g tc te (startR k fr ρ) (ds.drop i) = .ok ws ∧ xs = us ++ ws ∧ Reps K (hid H' (D :: A)) us ys ∧ sms us ∧ us.length ≤ i,
  ⟨ds.length, Nat.zero_le _, rfl, upd_same, s0, FD, [], xs, hx, rfl, .nil, trivial, Nat.zero_le _⟩, ?_⟩
 rintro i m ys σ' H' ⟨hi, rfl, hD', sm', F', us, ws, hw, rfl, ru, zu, lu⟩
 refine ⟨hD', ?_⟩
 have few := hJ.few
 by_cases hlt : i < ds.length
 ·refine .inr ⟨hJ.go i H' hlt (hid_same.trans sm'), ds.length - (i + 1), by omega, fun x H2 y => ?_⟩
  obtain ⟨sy, d, hd, rd⟩ := hJ.yl i H' x H2 (D :: A) hlt F'.liv (sD sm') y
  have hd0 : ds.drop i = d :: ds.drop (i + 1) := by
   rw [List.drop_eq_getElem_cons hlt]
   congr 1
   have := List.getElem?_eq_getElem hlt
   rw [hd] at this
   exact (Option.some.inj this).symm
  rw [hd0] at hw
  obtain ⟨ρ1, hg, hcase⟩ := comM_cons hw
  refine ⟨[], D :: A, _, d, F'.mono sy, rd, sms_mem hJ.small (List.mem_of_getElem? hd), ρ1, hg, fun σ2 F2 => ?_⟩
  obtain ⟨k1, k2⟩ := hk d _ _ hg
  have bk : ∀ {σ3 H3}, Fit K [] (D :: A) ρ1 σ3 H3 → Fit K [] (D :: A) (startR k fr ρ) σ3 H3 := fun F3 => F3.back k1 (fun j e hj => by
   have hkj : k ≤ j := by
    by_cases z : j < k
    ·rw [startR_no z] at hj; cases hj
    ·omega
   rw [k2 j hkj]
   exact hj) ho
  rcases hcase with ⟨ht, hr⟩ | ⟨ht, x', ys', hte, hr, rfl⟩
  ·refine ⟨[], D :: A, ρ1, F2, ?_⟩
   rw [ht]
   intro H4 s4
   simp only [Bool.false_eq_true, if_false]
   have s24 := sy.trans s4
   exact ⟨hlt, trivial, s24 _ _ hD', sm'.trans s24, bk (F2.mono s4), us, ws, hr, rfl, ru.mono (s24.hid _), zu, by omega⟩
  ·refine ⟨[], D :: A, ρ1, F2, ?_⟩
   rw [ht]
   intro H4 s4
   simp only [if_true]
   refine ⟨[], D :: A, ρ1, F2.mono s4, ?_⟩
   rw [hte]
   intro v H5 s5 r5 z5
   have s25 := (sy.trans s4).trans s5
   have hl := ru.length
   refine ⟨s25 _ _ hD', Nat.lt_of_le_of_lt (by omega : ys.length ≤ 10000) (by decide), hlt, trivial, upd_same, fun b o e => ?_, ?_, us ++ [x'], ys', hr, by simp, ?_, sms_append zu ⟨z5, trivial⟩, by simp; omega⟩
   ·rw [upd_ne (ne_of_none e hD)]
    exact s25 b o (sm' b o e)
   ·have F5 := bk ((F2.mono s4).mono s5)
    refine ⟨F5.len, fun a' ha => ?_, (fun a z => nomatch z), fun j e h => ?_, fun j ds h => (ho j ds h).elim, fun j _ ds _ _ _ h => (ho j ds h).elim⟩
    ·by_cases hz : a' = D
     ·rw [hz, upd_same]; simp
     ·rw [upd_ne hz]; exact F5.liv a' ha
    ·rw [hid_upd_in List.mem_cons_self]
     exact F5.val j e h
   ·rw [hid_upd_in List.mem_cons_self]
    exact (ru.mono (s25.hid _)).append (.cons r5 .nil)
 ·have e : i = ds.length := by omega
  subst e
  rw [List.drop_length] at hw
  cases hw
  rw [List.append_nil] at fin
  have hl := ru.length
  refine .inl ⟨hJ.stop H' (hid_same.trans sm'), fin (.ref D) H' sm' (rep_lst (by rw [hid_ne hDA]; exact hD') (ru.mono fun b o e => ?_)) zu (by omega)⟩
  obtain ⟨h1, h2⟩ := of_hid e
  rw [hid_ne fun z => h1 (List.mem_cons_of_mem _ z)]
  exact h2
section
variable {X : Cx} {cls : Nat → Addr} {E : XK} {a b c : Expr} {f : Rho → M Dt} {pos : Pos} {scope : Scope} {N : List Str} {k : Nat} {fr : List Nat} {tg iter elt : Expr} {ifs : List Expr} {ι : IM} {g : GM} {tc : Rho → M Bool} {te : Rho → M Dt}
theorem t_comp (hk : GK k g) (σ : St) (H : Hp) (Q : VK) (q : tM X.K cls E (pComp k fr ι g tc te) σ H Q) : tComp k fr (iM X.K cls E ι) (gM X.K g) (tMB X.K cls E0 tc) (tM X.K cls E0 te) σ H Q := by
 obtain ⟨O, A, ρ, F, q⟩ := q
 refine ⟨O, A, ρ, F, Rg.bind q fun ds _ q1 => ?_⟩
 intro J H1 s1 hJ
 cases hm : comM g tc te (startR k fr ρ) ds with
 | ok xs =>
  have q2 : Res X.K cls A E (szL xs) H Q := by rw [hm] at q1; exact q1
  refine rd_comp (F.mono s1) hk hJ hm fun v H' s' r z zl => ?_
  unfold szL at q2
  rw [if_pos zl] at q2
  exact q2 v H' (s1.trans s') r ⟨zl, z⟩
 | ex c => rw [hm] at q1; exact (show False from q1).elim
 | bad => rw [hm] at q1; exact (show False from q1).elim
theorem tv_none : PTs X [] (tMB X.K cls E tYs) := fun pins s σ H Q I ⟨O, A, ρ, F, q⟩ => pts_nil pins s σ H Q I (q H (.refl _))
theorem tv_one (h : Tv X cls E c tc) : PTs X [c] (tMB X.K cls E tc) := pts_one h
theorem ev_comp (hk : GK k g) (hc : X.calm = true) (S : CScope X scope N k fr) (hi : Iv X cls E tg iter ι) (hg : ∀ pins fp s H, PG (cxC X scope N pins fp s H) tg (gM X.K g)) (ht : ∀ pins fp s H, PTs (cxC X scope N pins fp s H) ifs (tMB X.K cls E0 tc))
  (he : ∀ pins fp s H, PE (cxC X scope N pins fp s H) elt (tM X.K cls E0 te)) (hs : ∀ x, foldedSetIterable iter X.env x = pure x := by intro _; rfl) : Ev X cls E (.ListComp elt [⟨tg, iter, ifs, 0⟩] scope pos) (pComp k fr ι g tc te) :=
 (pe_comp hc S hi hg ht he hs).imp (t_comp hk)
end
def Sto (K : PySem.W.Frag) (Hin : Hp) (A₀ : List Addr) (os : List Addr) (ρ : Rho) (σ : St) (H : Hp) : Prop := Same Hin H ∧ Liv Hin A₀ ∧ (∀ a ∈ os, Hin a = none) ∧ Fit K os (os ++ A₀) ρ σ H
def Stt (K : PySem.W.Frag) (Hin : Hp) (A₀ : List Addr) (ρ : Rho) (σ : St) (H : Hp) : Prop := ∃ os, Sto K Hin A₀ os ρ σ H
def SRes (K : PySem.W.Frag) (cls : Nat → Addr) (E : XK) (Hin : Hp) (A₀ : List Addr) (m : M Fl) (D : Ends) : Prop := match m with
 | .ok (.nx ρ) => ∀ σ H, Stt K Hin A₀ ρ σ H → D.nx σ H
 | .ok (.bk ρ) => ∀ σ H, Stt K Hin A₀ ρ σ H → D.bk σ H
 | .ok (.ct ρ) => ∀ σ H, Stt K Hin A₀ ρ σ H → D.ct σ H
 | .ok (.rt d) => ∀ v H, Same Hin H → Rep K (hid H A₀) d v → sm d → D.rt v H
 | .ex c => ∀ H, Same Hin H → E (.ref (cls c)) none H
 | .bad => False
def sM (K : PySem.W.Frag) (cls : Nat → Addr) (E : XK) (f : SM) : TS := fun D σ H => ∃ Hin A₀ ρ, Stt K Hin A₀ ρ σ H ∧ SRes K cls E Hin A₀ (f ρ) D
abbrev Sv (X : Cx) (cls : Nat → Addr) (E : XK) (st : Stmt) (f : SM) : Prop := PS X st (sM X.K cls E f)
abbrev Bv (X : Cx) (cls : Nat → Addr) (E : XK) (st : List Stmt) (f : SM) : Prop := PSs X st (sM X.K cls E f)
theorem PS.imp {X : Cx} {e : Stmt} {t t' : TS} (h : PS X e t') (i : ∀ D σ H, t D σ H → t' D σ H) : PS X e t := fun pins s σ H D I hw => h pins s σ H D I (i D σ H hw)
theorem PSs.imp {X : Cx} {e : List Stmt} {t t' : TS} (h : PSs X e t') (i : ∀ D σ H, t D σ H → t' D σ H) : PSs X e t := fun pins s σ H D I hw => h pins s σ H D I (i D σ H hw)
theorem PS.nox {X : Cx} {st : Stmt} {t : TS} (h : PS X.nox st t) : PS X st t := fun pins s σ H D I hw =>
 wpAny_mono (h pins s σ H D (I.wish _) hw) (fun _ _ q => q.unwish) fun _ _ z => False.elim z
section
variable {K : PySem.W.Frag} {cls : Nat → Addr} {E : XK} {Hin : Hp} {A₀ : List Addr} {ρ : Rho} {σ : St} {H : Hp} {D : Ends}
theorem hid_app {H : Hp} {A B : List Addr} : Same (hid H (A ++ B)) (hid H B) := fun b o e => by
 obtain ⟨h1, h2⟩ := of_hid e
 rw [hid_ne fun z => h1 (List.mem_append_right _ z)]
 exact h2
theorem res_of {m : M Dt} {k : Dt → M Fl} {os : List Addr} {Q : VK} (s0 : Same Hin H) (h : SRes K cls E Hin A₀ (m.bd k) D)
  (f : ∀ d v H', m = .ok d → SRes K cls E Hin A₀ (k d) D → Same H H' → Rep K (hid H' (os ++ A₀)) d v → sm d → Q v H') : Res K cls (os ++ A₀) E m H Q := by
 cases m with
 | ok d => exact fun v H' s r z => f d v H' rfl h s r z
 | ex c => exact fun H' s => h H' (s0.trans s)
 | bad => exact h
theorem resB_of {m : M Bool} {k : Bool → M Fl} {Q : Bool → Hp → Prop} (s0 : Same Hin H) (h : SRes K cls E Hin A₀ (m.bd k) D)
  (f : ∀ d H', m = .ok d → SRes K cls E Hin A₀ (k d) D → Same H H' → Q d H') : ResB cls E m H Q := by
 cases m with
 | ok d => exact fun H' s => f d H' rfl h s
 | ex c => exact fun H' s => h H' (s0.trans s)
 | bad => exact h
end
section
variable {X : Cx} {cls : Nat → Addr} {E : XK} {a b c : Expr} {f g h : Rho → M Dt} {pos : Pos} {st : Stmt} {rest : List Stmt} {s t : SM}
theorem bv_nil : Bv X cls E [] sSkip := pss_nil.imp fun D σ H ⟨Hin, A₀, ρ, S, q⟩ => q σ H S
theorem t_seq {D : Ends} {σ : St} {H : Hp} (q : sM X.K cls E (sSeq s t) D σ H) : tSeq (sM X.K cls E s) (sM X.K cls E t) D σ H := by
 obtain ⟨Hin, A₀, ρ, S, q⟩ := q
 refine ⟨Hin, A₀, ρ, S, ?_⟩
 unfold sSeq at q
 cases hm : s ρ with
 | ok fl =>
  rw [hm] at q
  cases fl with
  | nx ρ' => exact fun σ' H' S' => ⟨Hin, A₀, ρ', S', q⟩
  | bk ρ' => exact q
  | ct ρ' => exact q
  | rt d => exact q
 | ex c => rw [hm] at q; exact q
 | bad => rw [hm] at q; exact q
theorem bv_cons (h1 : Sv X cls E st s) (h2 : Bv X cls E rest t) : Bv X cls E (st :: rest) (sSeq s t) := (pss_cons h1 h2).imp fun D σ H q => t_seq q
theorem bv_one (h1 : Sv X cls E st s) : Bv X cls E [st] s := pss_one h1
theorem Stt.rel {K : PySem.W.Frag} {Hin : Hp} {A₀ : List Addr} {ρ : Rho} {σ : St} {H : Hp} (S : Stt K Hin A₀ ρ σ H) (i : Nat) : Stt K Hin A₀ (L2.rel i ρ) σ H := by
 unfold L2.rel relB
 split
 ·rename_i ds hd
  obtain ⟨os, s0, L0, fr, F⟩ := S
  obtain ⟨a, xs, h1, h2, h3, h4, h5, h6⟩ := F.own i ds hd
  have haA : a ∉ A₀ := fun z => L0 a z (fr a h2)
  have hlt : i < ρ.length := (List.getElem?_eq_some_iff.mp hd).1
  refine ⟨os.filter fun b => decide (b ≠ a), s0, L0, fun b hb => fr b (List.mem_filter.mp hb).1, ?_⟩
  have sub : ∀ b, b ∈ (os.filter fun b => decide (b ≠ a)) ++ A₀ → b ∈ os ++ A₀ := fun b z => by
   rcases List.mem_append.mp z with z | z
   ·exact List.mem_append_left _ (List.mem_filter.mp z).1
   ·exact List.mem_append_right _ z
  have sm' : Same (hid H (os ++ A₀)) (hid H ((os.filter fun b => decide (b ≠ a)) ++ A₀)) := fun b o e => by
   obtain ⟨e1, e2⟩ := of_hid e
   rw [hid_ne fun z => e1 (sub b z)]
   exact e2
  refine ⟨by simp [F.len], fun b hb => F.liv b (sub b hb), fun b hb => List.mem_append_left _ hb, fun j e he => ?_, fun j es he => ?_, fun j k ds' es b hjk e1 e2 e3 => ?_⟩
  ·by_cases hj : j = i
   ·subst hj
    rw [List.getElem?_set_self hlt] at he
    cases he
    refine ⟨.ref a, h1, rep_lst ?_ (h4.mono sm'), ⟨h6, h5⟩⟩
    rw [hid_ne]
    ·exact h3
    ·intro z
     rcases List.mem_append.mp z with z | z
     ·simp at z
     ·exact haA z
   ·rw [List.getElem?_set_ne (Ne.symm hj)] at he
    obtain ⟨v, e1, e2, e3⟩ := F.val j e he
    exact ⟨v, e1, e2.mono sm', e3⟩
  ·by_cases hj : j = i
   ·subst hj
    rw [List.getElem?_set_self hlt] at he
    cases he
   ·rw [List.getElem?_set_ne (Ne.symm hj)] at he
    obtain ⟨b, ys, e1, e2, e3, e4, e5⟩ := F.own j es he
    have hba : b ≠ a := fun z => by
     subst z
     exact F.apart i j ds es b (Ne.symm hj) hd he h1 e1
    exact ⟨b, ys, e1, List.mem_filter.mpr ⟨e2, by simpa using hba⟩, e3, e4.mono sm', e5⟩
  ·have no : ∀ (m : Nat) es', (ρ.set i (.val (.lst ds)))[m]? = some (.own es') → m ≠ i := fun m es' h e => by
    subst e
    rw [List.getElem?_set_self hlt] at h
    cases h
   have n1 := no _ _ e1
   have n2 := no _ _ e2
   rw [List.getElem?_set_ne (Ne.symm n1)] at e1
   rw [List.getElem?_set_ne (Ne.symm n2)] at e2
   exact F.apart j k ds' es b hjk e1 e2 e3
 ·exact S
theorem bv_rel (i : Nat) (h : Bv X cls E rest s) : Bv X cls E rest (sRel i s) := PSs.imp h fun D σ H ⟨Hin, A₀, ρ, S, q⟩ => ⟨Hin, A₀, L2.rel i ρ, S.rel i, q⟩
theorem sv_ret (he : Ev X cls E a f) : Sv X cls E (.Return (some a) pos) (sRet f) := (ps_ret he).imp fun D σ H ⟨Hin, A₀, ρ, ⟨os, s0, L0, fr, F⟩, q⟩ =>
 ⟨os, os ++ A₀, ρ, F, res_of s0 q fun d v H' _ q1 s' r z => q1 v H' (s0.trans s') (r.mono hid_app) z⟩
theorem sv_drop (he : Ev X cls E a f) (hs : swapsWith a none pos.line X.env = pure false := by rfl) : Sv X cls E (.Expr a pos) (sDrop f) := (ps_expr he hs).imp fun D σ H ⟨Hin, A₀, ρ, ⟨os, s0, L0, fr, F⟩, q⟩ =>
 ⟨os, os ++ A₀, ρ, F, res_of s0 q fun d v H' _ q1 s' r z => q1 σ H' ⟨os, s0.trans s', L0, fr, F.mono s'⟩⟩
theorem t_asg {g : GM} {D : Ends} {σ : St} {H : Hp} (q : sM X.K cls E (sAsg f g) D σ H) : tAsg (tM X.K cls E f) (gM X.K g) D σ H := by
 obtain ⟨Hin, A₀, ρ, ⟨os, s0, L0, fr, F⟩, q⟩ := q
 refine ⟨os, os ++ A₀, ρ, F, res_of s0 q fun d v H' _ q1 s' r z => ?_⟩
 cases hg : g d ρ with
 | ok ρ' =>
  rw [hg] at q1
  exact ⟨os, os ++ A₀, ρ, d, F.mono s', r, z, ρ', hg, fun σ' F' => q1 σ' H' ⟨os, s0.trans s', L0, fr, F'⟩⟩
 | ex c => rw [hg] at q1; exact (show False from q1).elim
 | bad => rw [hg] at q1; exact (show False from q1).elim
theorem sv_asg {g : GM} {tg : Expr} (he : Ev X cls E a f) (hg : PG X tg (gM X.K g)) (hs : swapsWithSole [tg] a pos.line X.env = pure false := by rfl) (hw : swappedStores [tg] a X.env = pure none := by rfl)
  (h1 : (assignEach [tg] X.env).map (·.2) = [assign tg X.env] := by rfl) : Sv X cls E (.Assign [tg] a pos) (sAsg f g) := (ps_asg he hg hs hw h1).imp fun D σ H q => t_asg q
theorem t_asgN {i : Nat} {te : TE} (ht : ∀ σ H Q, tM X.K cls E f σ H Q → te σ H Q) {D : Ends} {σ : St} {H : Hp} (q : sM X.K cls E (sAsg f (gNm i)) D σ H) : tAsg te (gName i) D σ H := by
 obtain ⟨Hin, A₀, ρ, ⟨os, s0, L0, fr, F⟩, q⟩ := q
 refine ht σ H _ ⟨os, os ++ A₀, ρ, F, res_of s0 q fun d v H' _ q1 s' r z => ?_⟩
 exact q1 _ H' ⟨os, s0.trans s', L0, fr, (F.mono s').put i r z⟩
theorem sv_set {i : Nat} {x : Str} {pos' : Pos} (hN : X.N.Nodup) (hi : X.N[i]? = some x) (hx : Loc X.env.scope x) (he : Ev X cls E a f) (hs : swapsWith a (some (.Name x pos')) pos.line X.env = pure false := by rfl)
  (hf : X.fn x = true ∨ X.env.scope.names.lookup x = some .local := by first | exact .inl rfl | exact .inr rfl | assumption) : Sv X cls E (.Assign [.Name x pos'] a pos) (sAsg f (gNm i)) := (ps_set hN hi hx he hs hf).imp fun D σ H q => t_asgN (fun _ _ _ z => z) q
theorem sv_setComp {i : Nat} {x : Str} {pos' spos : Pos} {scope : Scope} {N : List Str} {k : Nat} {fr : List Nat} {tg iter elt : Expr} {ifs : List Expr} {ι : IM} {g : GM} {tc : Rho → M Bool} {te : Rho → M Dt} (hk : GK k g) (hc : X.calm = true) (S : CScope X scope N k fr) (hi : Iv X cls E tg iter ι)
  (hg : ∀ pins fp s H, PG (cxC X scope N pins fp s H) tg (gM X.K g)) (ht : ∀ pins fp s H, PTs (cxC X scope N pins fp s H) ifs (tMB X.K cls E0 tc))
  (he : ∀ pins fp s H, PE (cxC X scope N pins fp s H) elt (tM X.K cls E0 te)) (hN : X.N.Nodup) (hix : X.N[i]? = some x) (hx : X.env.scope.names.lookup x = some .local)
  (hsw : swapsWith (.ListComp elt [⟨tg, iter, ifs, 0⟩] scope pos) (some (.Name x pos')) spos.line X.env = pure true := by rfl)
  (hs : ∀ x, foldedSetIterable iter X.env x = pure x := by intro _; rfl) : Sv X cls E (.Assign [.Name x pos'] (.ListComp elt [⟨tg, iter, ifs, 0⟩] scope pos) spos) (sAsg (pComp k fr ι g tc te) (gNm i)) :=
 (ps_setComp hc S hi hg ht he hN hix hx hsw hs).imp fun D σ H q => t_asgN (t_comp hk) q
theorem sv_if {F G : SM} {tc : Rho → M Bool} {sa sb : List Stmt} (hc : Tv X cls E c tc) (ha : Bv X cls E sa F) (hb : Bv X cls E sb G) : Sv X cls E (.If c sa sb pos) (sIf tc F G) := (ps_if hc ha hb).imp fun D σ H ⟨Hin, A₀, ρ, ⟨os, s0, L0, fr, Ft⟩, q⟩ =>
 ⟨os, os ++ A₀, ρ, Ft, resB_of s0 q fun b H' _ q1 s' => by
  have S' : Stt X.K Hin A₀ ρ σ H' := ⟨os, s0.trans s', L0, fr, Ft.mono s'⟩
  cases b with
  | false =>
   simp only [Bool.false_eq_true, if_false] at q1 ⊢
   exact ⟨Hin, A₀, ρ, S', q1⟩
  | true =>
   simp only [if_true] at q1 ⊢
   exact ⟨Hin, A₀, ρ, S', q1⟩⟩
theorem sv_nox {st : Stmt} (h : Sv X.nox cls E0 st s) : Sv X cls E st (fun ρ => (s ρ).calm) := (PS.nox h).imp fun D σ H ⟨Hin, A₀, ρ, S, q⟩ => ⟨Hin, A₀, ρ, S, by
 have q : SRes X.K cls E Hin A₀ (s ρ).calm D := q
 cases hm : s ρ with
 | ok fl => rw [hm] at q; cases fl <;> exact q
 | ex c => rw [hm] at q; exact (show False from q).elim
 | bad => rw [hm] at q; exact (show False from q).elim⟩
abbrev Uv (X : Cx) (cls : Nat → Addr) (E : XK) (e : Expr) (f : Rho → M Unit) : Prop := PE X e (tMU X.K cls E f)
theorem uv_of (h : Ev X cls E a f) : Uv X cls E a (uOf f) := PE.imp h fun σ H Q ⟨O, A, ρ, F, q⟩ => ⟨O, A, ρ, F, Rg.bind q fun d _ q1 v H' s' _ _ => q1 v H' s'⟩
theorem uv_f3 {x y : Str} {j p p' j2 p2} (h : Ev X cls E a f) (hx : x.length ≤ 1000 := by decide +kernel) (hy : y.length ≤ 1000 := by decide +kernel) : Uv X cls E (.JoinedStr [.Constant (.str x) j p, .FormattedValue a (-1) none p', .Constant (.str y) j2 p2] pos) (uInt f) :=
 (pe_fstr3 (pe_str (x := x)) (pe_fmtI h) (pe_str (x := y))).imp fun σ H Q ⟨O, A, ρ, F, q⟩ => by
 refine ⟨_, rfl, hx, O, A, ρ, F, Rg.bind q fun d _ q1 => ?_⟩
 intro v H' s' r z
 cases d with
 | int i =>
  simp only [uIn] at q1
  split at q1
  ·rename_i hi
   obtain ⟨i1, i2⟩ := int_len hi.1 hi.2
   exact ⟨i, repI r, i2, _, rfl, i1, _, rfl, hy, fun z => q1 _ H' s'⟩
  ·exact (show False from q1).elim
 | _ => exact (show False from q1).elim
theorem sv_raise {x : Str} {np cpos : Pos} {cn : Nat} {fu : Rho → M Unit} (hc : X.calm = true) (R : Rz X E) (hg : Gl X x) (hm : X.mg x = some (.ref (cls cn))) (hK : excIn X.K (cls cn) veMro "ValueError.__new__" = true) (he : Uv X cls E a fu) (hst : isStar a = false := by rfl)
  (hd : (x == ("__debug__" : Str)) = false := by decide) : Sv X cls E (.Raise (some (.Call (.Name x np) [a] [] cpos)) none pos) (sRz cn fu) := (ps_raise hc R hg hm hK he hst hd).imp fun D σ H ⟨Hin, A₀, ρ, ⟨os, s0, L0, fr, F⟩, q⟩ => by
 refine ⟨os, os ++ A₀, ρ, F, ?_⟩
 unfold sRz at q
 cases hm' : fu ρ with
 | ok u =>
  rw [hm'] at q
  exact fun v H' s' => q H' (s0.trans s')
 | ex c => rw [hm'] at q; exact fun H' s' => q H' (s0.trans s')
 | bad => rw [hm'] at q; exact q
theorem Sto.weak {K : PySem.W.Frag} {Hin Hin' : Hp} {A₀ os : List Addr} {ρ : Rho} {σ : St} {H : Hp} (h : Sto K Hin' A₀ os ρ σ H) (s : Same Hin Hin') (L : Liv Hin A₀) : Sto K Hin A₀ os ρ σ H := by
 refine ⟨s.trans h.1, L, fun a ha => ?_, h.2.2.2⟩
 cases q : Hin a with
 | none => rfl
 | some o =>
  have e := s a o q
  rw [h.2.2.1 a ha] at e
  exact nomatch e
theorem t_for {ι : IM} {g : GM} {D : Ends} {σ : St} {H : Hp} (q : sM X.K cls E0 (sFor ι g s) D σ H) : tFor (iM X.K cls E0 ι) (gM X.K g) (sM X.K cls E0 s) D σ H := by
 obtain ⟨Hin, A₀, ρ, ⟨os, s0, L0, fr, F⟩, q⟩ := q
 refine ⟨os, os ++ A₀, ρ, F, ?_⟩
 unfold sFor at q
 cases hm : ι ρ with
 | ex c => rw [hm] at q; exact fun H' s' => q H' (s0.trans s')
 | bad => rw [hm] at q; exact q
 | ok ds =>
  rw [hm] at q
  simp only [bd_ok] at q
  intro J H1 s1 hJ
  have sI : Same Hin (hid H1 os) := fun b o e => by
   rw [hid_ne fun z => by rw [fr b z] at e; cases e]
   exact s1 b o (s0 b o e)
  have L1 : Liv (hid H1 os) A₀ := L0.mono sI
  have sJ : ∀ {H2}, Same (hid H1 os) H2 → Same (hid H1 (os ++ A₀)) H2 := fun s2 b o e => by
   obtain ⟨e1, e2⟩ := of_hid e
   refine s2 b o ?_
   rw [hid_ne fun z => e1 (List.mem_append_left _ z)]
   exact e2
  refine ⟨fun i m σ' H' => i ≤ ds.length ∧ m = ds.length - i ∧ ∃ ρ', Stt X.K (hid H1 os) A₀ ρ' σ' H' ∧ SRes X.K cls E0 Hin A₀ (forM' g s (ds.drop i) ρ') D,
   ⟨ds.length, Nat.zero_le _, rfl, ρ, ⟨os, hid_same, L1, fun a ha => hid_in ha, F.mono s1⟩, q⟩, ?_⟩
  rintro i m σ' H' ⟨hi, rfl, ρ', ⟨os', s', L', fr', F'⟩, q'⟩
  by_cases hlt : i < ds.length
  ·refine .inr ⟨hJ.go i H' hlt (sJ s'), fun σ2 H2 => i + 1 ≤ ds.length ∧ ∃ ρ2, Stt X.K (hid H1 os) A₀ ρ2 σ2 H2 ∧ SRes X.K cls E0 Hin A₀ (forM' g s (ds.drop (i + 1)) ρ2) D, fun σ2 H2 ⟨h1, h2⟩ => ⟨ds.length - (i + 1), by omega, h1, rfl, h2⟩, fun x H2 y => ?_⟩
   have sA : Same (hid H1 (os ++ A₀)) (hid H' (os' ++ A₀)) := fun b o e => by
    obtain ⟨e1, e2⟩ := of_hid e
    have e3 : hid H1 os b = some o := by rw [hid_ne fun z => e1 (List.mem_append_left _ z)]; exact e2
    rw [hid_ne]
    ·exact s' b o e3
    ·intro z
     rcases List.mem_append.mp z with z | z
     ·rw [fr' b z] at e3; cases e3
     ·exact e1 (List.mem_append_right _ z)
   obtain ⟨sy, d, hd, rd⟩ := hJ.yl i H' x H2 (os' ++ A₀) hlt F'.liv sA y
   have hd0 : ds.drop i = d :: ds.drop (i + 1) := by
    rw [List.drop_eq_getElem_cons hlt]
    congr 1
    have := List.getElem?_eq_getElem hlt
    rw [hd] at this
    exact (Option.some.inj this).symm
   rw [hd0] at q'
   simp only [forM'] at q'
   cases hg : g d ρ' with
   | ex c => rw [hg] at q'; exact (show False from q').elim
   | bad => rw [hg] at q'; exact (show False from q').elim
   | ok ρ1 =>
    rw [hg] at q'
    simp only [calm_ok, bd_ok] at q'
    refine ⟨os', os' ++ A₀, ρ', d, F'.mono sy, rd, sms_mem hJ.small (List.mem_of_getElem? hd), ρ1, hg, fun σ2 F2 => ?_⟩
    refine ⟨hid H1 os, A₀, ρ1, ⟨os', s'.trans sy, L', fr', F2⟩, ?_⟩
    cases hs : s ρ1 with
    | ex c => rw [hs] at q'; exact (show False from q').elim
    | bad => rw [hs] at q'; exact (show False from q').elim
    | ok fl =>
     rw [hs] at q'
     simp only [calm_ok, bd_ok] at q'
     cases fl with
     | nx ρ2 => exact fun σ3 H3 S3 => ⟨hlt, ρ2, S3, q'⟩
     | ct ρ2 => exact fun σ3 H3 S3 => ⟨hlt, ρ2, S3, q'⟩
     | bk ρ2 => exact fun σ3 H3 ⟨os3, S3⟩ => q' σ3 H3 ⟨os3, S3.weak sI L0⟩
     | rt d => exact fun v H3 s3 r z => q' v H3 (sI.trans s3) r z
  ·have e : i = ds.length := by omega
   subst e
   rw [List.drop_length] at q'
   exact .inl ⟨hJ.stop H' (sJ s'), q' σ' H' ⟨os', Sto.weak ⟨s', L', fr', F'⟩ sI L0⟩⟩
theorem sv_for0 {iter tg : Expr} {body : List Stmt} {ι : IM} {g : GM} (hc : X.calm = true) (hi : Iv X.nox cls E0 tg iter ι) (hg : PG X.nox tg (gM X.K g)) (hb : Bv X.nox cls E0 body s)
  (hs : ∀ x, foldedSetIterable iter X.env x = pure x := by intro _; rfl) : Sv X cls E (.For tg iter body [] pos) (sForC ι g s) :=
 sv_nox (X := X) ((ps_for (X := X.nox) PassesOwn.never hc hi hg hb hs).imp fun D σ H q => t_for q)
theorem fn_start {K : PySem.W.Frag} {A : List Addr} {ds : List Dt} {vs : List V} {H : Hp} (L : Liv H A) (r : Reps K (hid H A) ds vs) (z : sms ds) (n : Nat) : Fit K [] A (ds.map Bd.val ++ List.replicate n .no) (vs.map some ++ List.replicate n none) H := by
 have hl := r.length
 have key : ∀ (i : Nat) b, (ds.map Bd.val ++ List.replicate n .no)[i]? = some b → b = .no ∨ ∃ d, b = .val d ∧ ds[i]? = some d := fun i b h => by
  by_cases hi : i < ds.length
  ·rw [List.getElem?_append_left (by simpa using hi)] at h
   simp only [List.getElem?_map, Option.map_eq_some_iff] at h
   obtain ⟨d, h1, h2⟩ := h
   exact .inr ⟨d, h2.symm, h1⟩
  ·rw [List.getElem?_append_right (by simp; omega)] at h
   exact .inl (List.eq_of_mem_replicate (List.mem_of_getElem? h))
 refine ⟨by simp [hl], L, (fun a z => nomatch z), fun i d h => ?_, fun i es h => ?_, fun i j es fs a _ h => ?_⟩
 ·rcases key i _ h with e | ⟨d', e, hd⟩
  ·cases e
  ·cases e
   have hi : i < ds.length := (List.getElem?_eq_some_iff.mp hd).1
   have hx : vs[i]? = some (vs[i]'(by omega)) := by simp
   obtain ⟨d2, h1, h2⟩ := r.get hx
   rw [hd] at h1
   cases h1
   refine ⟨_, ?_, h2, sms_mem z (List.mem_of_getElem? hd)⟩
   rw [List.getElem?_append_left (by simp; omega)]
   simp
 ·rcases key i _ h with e | ⟨d', e, hd⟩ <;> cases e
 ·rcases key i _ h with e | ⟨d', e, hd⟩ <;> cases e
end
section
variable {P : Program} {w : World} {K : PySem.W.Frag} {mg : Str → Option Value} {base : Heap} {cls : Nat → Addr}
theorem fn_ok {x qual : Str} {st : Stmt} {f : Addr} {fd : FuncData} {N ps : List Str} {k np n : Nat} {b : SM} (F : Fun K x qual st f fd) (S : FnScope N ps (defScope st)) (hp : ps.length = np) (hn : N.length = np + n)
  (hbody : ∀ (cdv : Value) (A : Around) (outer : List Env) (s : Shared) (H : Hp) (E : XK), Room k (A.deeper (envOfC qual (defScope st) s.heap.objs.size f cdv)) →
   Rz (cxOf (CX1 P w) P w K mg base N qual (defScope st) f cdv A outer s H E) E → Bv (cxOf (CX1 P w) P w K mg base N qual (defScope st) f cdv A outer s H E) cls E (defBody st) b) (hf : ps = [lawS] → (defScope st).names.lookup lawS = some .local := by first | assumption | decide +kernel) :
  FnOk P w K mg base (CX1 P w) (k + 1) f fd ps (spM K cls (fnM np n b)) := by
 have len : ∀ vs H Q E, spM K cls (fnM np n b) vs H Q E → vs.length = np := fun vs H Q E ⟨A, ds, L, r, z, q⟩ => by
  unfold fnM at q
  split at q
  ·rename_i hl
   rw [← r.length]
   exact hl
  ·exact (show False from q).elim
 refine F.okX S (fun vs H Q E h => by rw [hp]; exact len vs H Q E h) fun cdv A outer s H vs Q E hr h R => ?_
 have hv := len vs H Q E h
 refine ⟨_, hbody cdv A outer s H E hr R, ?_⟩
 obtain ⟨B, ds, L, r, z, q⟩ := h
 refine ⟨H, B, ds.map Bd.val ++ List.replicate n .no, ⟨[], .refl _, L, (fun a z => nomatch z), ?_⟩, ?_⟩
 ·have e : start N vs = vs.map some ++ List.replicate n none := by
   unfold start
   rw [hn, hv, Nat.add_sub_cancel_left]
  rw [e]
  exact fn_start L r z n
 ·unfold fnM at q
  split at q
  ·cases hm : b (ds.map Bd.val ++ List.replicate n .no) with
   | ok fl =>
    rw [hm] at q
    cases fl with
    | nx ρ => exact fun σ H' ⟨os, s', _, _, _⟩ => q .non H' s' rep_non trivial
    | rt d => exact fun v H' s' r' z' => q v H' s' r' z'
    | bk ρ => exact (show False from q).elim
    | ct ρ => exact (show False from q).elim
   | ex c => rw [hm] at q; exact q
   | bad => rw [hm] at q; exact q
  ·exact (show False from q).elim
end
theorem pass_no {P : Program} {w : World} {X : Cx} : Passes (CX1 P w) X E0 := fun pins σ H s e s' I hc => by
 obtain ⟨ea, C, H', B, a0, _, _, _, _, _, _, _, _, _, hE⟩ := hc
 exact hE.elim
section
variable {X : Cx} {cls : Nat → Addr} {E : XK} {a b c : Expr} {f g h : Rho → M Dt} {pos : Pos} {st : Stmt} {rest : List Stmt} {s t : SM} {fs : Rho → M (List Dt)} {es : List Expr}
theorem sv_own {i : Nat} {x : Str} {pos' lp : Pos} (hN : X.N.Nodup) (hi : X.N[i]? = some x) (hx : Loc X.env.scope x) (he : Av X cls E es fs) (hs : swapsWith (.List es lp) (some (.Name x pos')) pos.line X.env = pure false := by rfl)
  (hf : X.fn x = true ∨ X.env.scope.names.lookup x = some .local := by first | exact .inl rfl | exact .inr rfl | assumption) : Sv X cls E (.Assign [.Name x pos'] (.List es lp) pos) (sOwn i fs) := (ps_set hN hi hx (pe_lst he) hs hf).imp fun D σ H ⟨Hin, A₀, ρ, ⟨os, s0, L0, fr, F⟩, q⟩ => by
 refine ⟨os, os ++ A₀, ρ, F, ?_⟩
 unfold sOwn at q
 cases hm : fs ρ with
 | ex c => rw [hm] at q; exact fun H' s' => q H' (s0.trans s')
 | bad => rw [hm] at q; exact q
 | ok ds =>
  rw [hm] at q
  simp only [bd_ok] at q
  intro vs H' s' r z
  split at q
  ·rename_i hl
   have hlen := r.length
   refine ⟨sm10 (by omega), fun p hp => q _ _ ?_⟩
   have F' := F.mono s'
   have hpA : p ∉ os ++ A₀ := F'.liv.fresh hp
   have s2 : Same H' (upd H' p (.lst vs)) := .upd hp
   have hpH : Hin p = none := by
    cases e : Hin p with
    | none => rfl
    | some o => have := s' p o (s0 p o e); rw [hp] at this; cases this
   have sh : Same (hid H' (os ++ A₀)) (hid (upd H' p (.lst vs)) ((p :: os) ++ A₀)) := fun b o e => by
    obtain ⟨e1, e2⟩ := of_hid e
    have hb : b ≠ p := ne_of_none e2 hp
    rw [hid_ne]
    ·exact s2 b o e2
    ·intro z
     rcases List.mem_cons.mp z with z | z
     ·exact hb z
     ·exact e1 z
   have hil : i < σ.length ∨ σ.length ≤ i := by omega
   refine ⟨p :: os, (s0.trans s').trans s2, L0, fun a ha => ?_, ?_⟩
   ·rcases List.mem_cons.mp ha with z | z
    ·subst z; exact hpH
    ·exact fr a z
   refine ⟨by simp [F.len], fun a ha => ?_, fun a ha => List.mem_append_left _ ha, fun j e he => ?_, fun j es' he => ?_, fun j k ds' es' b hjk e1 e2 e3 e4 => ?_⟩
   ·rcases List.mem_cons.mp ha with z | z
    ·subst z; rw [upd_same]; simp
    ·exact (F'.liv.mono s2) a z
   ·by_cases hj : j = i
    ·subst hj
     have hlt : j < ρ.length := by
      have := (List.getElem?_eq_some_iff.mp he).1
      simpa using this
     rw [List.getElem?_set_self hlt] at he
     cases he
    ·rw [List.getElem?_set_ne (Ne.symm hj)] at he ⊢
     obtain ⟨v, e1, e2, e3⟩ := F'.val j e he
     exact ⟨v, e1, e2.mono sh, e3⟩
   ·by_cases hj : j = i
    ·subst hj
     have hlt : j < ρ.length := by
      have := (List.getElem?_eq_some_iff.mp he).1
      simpa using this
     rw [List.getElem?_set_self hlt] at he
     cases he
     exact ⟨p, vs, List.getElem?_set_self (by rw [← F.len]; exact hlt), List.mem_cons_self, upd_same, r.mono sh, z, hl⟩
    ·rw [List.getElem?_set_ne (Ne.symm hj)] at he ⊢
     obtain ⟨b, ys, e1, e2, e3, e4, e5⟩ := F'.own j es' he
     exact ⟨b, ys, e1, List.mem_cons_of_mem _ e2, s2 _ _ e3, e4.mono sh, e5⟩
   ·have oldp : ∀ (m : Nat) gs, m ≠ i → ρ[m]? = some (.own gs) → σ[m]? ≠ some (some (.ref p)) := fun m gs _ e z => by
     obtain ⟨b, ys, e1, e2, e3, _⟩ := F'.own m gs e
     rw [z] at e1
     cases e1
     rw [hp] at e3
     cases e3
    by_cases hj : j = i
    ·subst hj
     have hk : k ≠ j := Ne.symm hjk
     rw [List.getElem?_set_ne hjk] at e2 e4
     have hlt : j < σ.length := by
      have := (List.getElem?_eq_some_iff.mp e3).1
      simpa using this
     rw [List.getElem?_set_self hlt] at e3
     cases e3
     exact oldp k es' hk e2 e4
    ·by_cases hk : k = i
     ·subst hk
      rw [List.getElem?_set_ne (Ne.symm hj)] at e1 e3
      have hlt : k < σ.length := by
       have := (List.getElem?_eq_some_iff.mp e4).1
       simpa using this
      rw [List.getElem?_set_self hlt] at e4
      cases e4
      exact oldp j ds' hj e1 e3
     ·rw [List.getElem?_set_ne (Ne.symm hj)] at e1 e3
      rw [List.getElem?_set_ne (Ne.symm hk)] at e2 e4
      exact F'.apart j k ds' es' b hjk e1 e2 e3 e4
  ·exact q.elim
theorem Sto.grow {K : PySem.W.Frag} {Hin : Hp} {A₀ os : List Addr} {ρ : Rho} {σ : St} {H : Hp} {i : Nat} {ds ns : List Dt} {p : Addr} {ys : List V} (S : Sto K Hin A₀ os ρ σ H) (hi : ρ[i]? = some (.own ds)) (hp : σ[i]? = some (some (.ref p)))
  (r : Reps K (hid H (os ++ A₀)) ns ys) (z : sms ns) (zl : ns.length ≤ 10000) : Sto K Hin A₀ os (ρ.set i (.own ns)) σ (upd H p (.lst ys)) := by
 obtain ⟨s0, L0, fr, F⟩ := S
 obtain ⟨p', xs, h1, h2, h3, h4, h5, h6⟩ := F.own i ds hi
 rw [hp] at h1
 cases h1
 have hin : p ∈ os ++ A₀ := List.mem_append_left _ h2
 have hlt : i < ρ.length := (List.getElem?_eq_some_iff.mp hi).1
 refine ⟨fun b o e => ?_, L0, fr, ?_⟩
 ·rw [upd_ne fun z => by subst z; rw [fr b h2] at e; cases e]
  exact s0 b o e
 ·refine ⟨by simp [F.len], fun a ha => ?_, F.sub, fun j e he => ?_, fun j es' he => ?_, fun j k ds' es' b hjk e1 e2 e3 => ?_⟩
  ·by_cases hz : a = p
   ·rw [hz, upd_same]; simp
   ·rw [upd_ne hz]; exact F.liv a ha
  ·rw [hid_upd_in hin]
   by_cases hj : j = i
   ·subst hj
    rw [List.getElem?_set_self hlt] at he
    cases he
   ·rw [List.getElem?_set_ne (Ne.symm hj)] at he
    exact F.val j e he
  ·rw [hid_upd_in hin]
   by_cases hj : j = i
   ·subst hj
    rw [List.getElem?_set_self hlt] at he
    cases he
    exact ⟨p, ys, hp, h2, upd_same, r, z, zl⟩
   ·rw [List.getElem?_set_ne (Ne.symm hj)] at he
    obtain ⟨b, zs, e1, e2, e3, e4, e5⟩ := F.own j es' he
    refine ⟨b, zs, e1, e2, ?_, e4, e5⟩
    rw [upd_ne fun z => by subst z; exact F.apart i j ds es' b (Ne.symm hj) hi he hp e1]
    exact e3
  ·have same : ∀ (m : Nat) gs, (ρ.set i (.own ns))[m]? = some (.own gs) → ∃ gs', ρ[m]? = some (.own gs') := fun m gs e => by
    by_cases hm : m = i
    ·subst hm; exact ⟨ds, hi⟩
    ·rw [List.getElem?_set_ne (Ne.symm hm)] at e; exact ⟨gs, e⟩
   obtain ⟨g1, k1⟩ := same _ _ e1
   obtain ⟨g2, k2⟩ := same _ _ e2
   exact F.apart j k g1 g2 b hjk k1 k2 e3
theorem Sto.mono {K : PySem.W.Frag} {Hin : Hp} {A₀ os : List Addr} {ρ : Rho} {σ : St} {H H' : Hp} (S : Sto K Hin A₀ os ρ σ H) (s : Same H H') : Sto K Hin A₀ os ρ σ H' := ⟨S.1.trans s, S.2.1, S.2.2.1, S.2.2.2.mono s⟩
theorem sv_append {i : Nat} {x : Str} {np apos cpos : Pos} (hv : PE X (.Name x np) (tVar i)) (hst : isStar a = false) (he : Ev X cls E a f)
  (hs : swapsWith (.Call (.Attribute (.Name x np) "append" apos) [a] [] cpos) none pos.line X.env = pure false := by rfl)
  (hbase : attributeBase (.Name x np) "append" X.env (eval (.Name x np) X.env) = eval (.Name x np) X.env := by rfl)
  (hfew : ((backTo cpos (starEach [a] X.env)).all (fun x => !x.1) && (backToKw cpos (keywordEach [] X.env)).all (fun x => x.1.isSome)
   && decide (([a] : List Expr).length + ([] : List Keyword).length + (if ([] : List Keyword).isEmpty then 0 else 1) < 30)) = true := by rfl)
  (hline : (apos.endLine == cpos.line) = true := by rfl) (hs1 : starEach [a] X.env = (false, eval a X.env) :: starEach [] X.env := by rfl) (hplain : (backTo cpos (starEach [] X.env)).any (·.1) = false := by rfl) :
  Sv X cls E (.Expr (.Call (.Attribute (.Name x np) "append" apos) [a] [] cpos) pos) (sAppend i f) :=
 (ps_expr (pe_bm PySem.F.plainAttrs_list PySem.F.slot_list_append PySem.F.type_list_append mt_append hv (pax _ _ _ _ _ hst he pa_nil) hbase hfew hline hs1 hplain) hs).imp fun D σ H ⟨Hin, A₀, ρ, ⟨os, S⟩, q⟩ => by
 unfold sAppend appK at q
 split at q
 ·rename_i ds hi
  have F := S.2.2.2
  obtain ⟨p, xs, h1, h2, h3, h4, h5, h6⟩ := F.own i ds hi
  refine ⟨.ref p, h1, .inl ⟨rfl, xs, SqL.of h3⟩, os, os ++ A₀, ρ, F, res_of S.1 q fun d v H' _ q1 s' r z => ?_⟩
  split at q1
  ·rename_i hl
   have hlen := h4.length
   refine ⟨p, xs, v, rfl, rfl, s' _ _ h3, Nat.lt_of_le_of_lt (by omega : xs.length ≤ 10000) (by decide), q1 _ _ ⟨os, ?_⟩⟩
   exact (S.mono s').grow hi h1 ((h4.mono (s'.hid _)).append (.cons r .nil)) (sms_append h5 ⟨z, trivial⟩) (by simp; omega)
  ·exact q1.elim
 ·exact q.elim
end
section
variable {X : Cx} {cls : Nat → Addr} {E : XK} {a b c : Expr} {f g h : Rho → M Dt} {pos : Pos} {st : Stmt} {rest : List Stmt} {s t : SM} {fs : Rho → M (List Dt)} {es : List Expr}
theorem bitAnd1 {i : Int} (h : 0 ≤ i) : Builtin.bitAnd i 1 = i % 2 := by
 obtain ⟨n, rfl⟩ : ∃ n : Nat, i = n := ⟨i.toNat, by omega⟩
 show ((n &&& 1 : Nat) : Int) = (n : Int) % 2
 rw [Nat.and_one_is_mod]
 rfl
theorem ev_and1 {j p} (ha : Ev X cls E a f) : Ev X cls E (.BinOp a .BitAnd (.Constant (.int 1) j p) pos) (p1 oAnd1 f) := (pe_op op_and ha (pe_int (i := 1))).imp fun σ H Q ⟨O, A, ρ, F, q⟩ => by
 refine ⟨O, A, ρ, F, Rg.bind q fun d _ q1 => ?_⟩
 intro v H1 s1 r1 z1
 cases d with
 | int i =>
  simp only [oAnd1] at q1
  split at q1
  ·rename_i hi
   refine ⟨i, 1, repI r1, rfl, ?_⟩
   show Q (.int (Builtin.bitAnd i 1)) H1
   rw [bitAnd1 hi]
   exact q1 _ H1 s1 rep_int trivial
  ·exact (show False from q1).elim
 | _ => exact (show False from q1).elim
theorem dig_str {i : Int} (h0 : 0 ≤ i) (h1 : i ≤ 9) : (Str.ofString (toString i)) = ⟨([48 + i.toNat] : List Nat).toArray⟩ ∧ i.natAbs.log2 < 1920 := by
 have h : i = 0 ∨ i = 1 ∨ i = 2 ∨ i = 3 ∨ i = 4 ∨ i = 5 ∨ i = 6 ∨ i = 7 ∨ i = 8 ∨ i = 9 := by omega
 rcases h with h | h | h | h | h | h | h | h | h | h
 all_goals
  rw [h]
  constructor <;> decide +kernel
theorem cd_str : CaD X cls E (.type "str") bStr := by
 refine ⟨_, call_str_int, fun A H Q ds vs L r z q => ?_⟩
 unfold bStr at q
 split at q
 ·rename_i i
  obtain ⟨v, rfl, rv⟩ := reps1 r
  split at q
  ·rename_i hi
   obtain ⟨e, hz⟩ := dig_str hi.1 hi.2
   refine ⟨i, by rw [repI rv], hz, ?_⟩
   rw [e]
   exact q _ H (.refl _) rep_str (by show 1 ≤ 10000; decide)
  ·exact (show False from q).elim
 ·exact (show False from q).elim
end
section
variable {X : Cx} {cls : Nat → Addr} {E : XK} {a b c : Expr} {f g h : Rho → M Dt} {pos : Pos} {fs : Rho → M (List Dt)} {es : List Expr}
theorem ev_join {x : Str} {j p apos} (ha : Av X cls E [a] fs) (hst : isStar a = false) (hx : x = ⟨([] : List Nat).toArray⟩ := by decide +kernel) (hline : (apos.endLine == pos.line) = true := by rfl) : Ev X cls E (.Call (.Attribute (.Constant (.str x) j p) "join" apos) [a] [] pos) (pMeth mJoin (pC (.str [])) fs) := by
 have hs : starEach [a] X.env = (false, eval a X.env) :: starEach [] X.env := starEach_cons hst
 exact ev_bm PySem.F.plainAttrs_str PySem.F.slot_str_join PySem.F.type_str_join md_join (ev_S (l := []) hx) ha rfl (by rw [hs]; rfl) hline hs rfl
end
theorem no_int : typeLookup (.type "str") "__int__" = pure none := by rw [typeLookup_type, builtinLookup_eq_fast]; kernel_rfl
theorem noIndex : typeLookup (.type "str") "__index__" = pure none := by rw [typeLookup_type, builtinLookup_eq_fast]; kernel_rfl
theorem no_trunc : typeLookup (.type "str") "__trunc__" = pure none := by rw [typeLookup_type, builtinLookup_eq_fast]; kernel_rfl
theorem meets_int_new_0 (t : Tok) : Meets (Builtin.«int.__new__» ⟨[.type "int", .str ⟨#[48]⟩ t], []⟩) (Made.int 0).spec :=
 Meets.of_wp fun prog w A R s hs => by
  obtain ⟨hp, g, d, tk, os⟩ := s
  have f1 := F.conv_sub_int
  have f2 := F.madeHere_int
  have f3 := no_int
  have f4 := noIndex
  have f5 := no_trunc
  repeat (any_goals (first | assumption | wp_step))
  refine Eq.mpr (congrArg (fun m => wpAny (model prog w) A.in1 m _ _ _) (show _ = mkInt 0 from ?e)) ?_
  case e => kernel_rfl
  repeat (any_goals (first | assumption | wp_step))
  all_goals exact ⟨_, rfl, hs⟩
theorem meets_int_new_1 (t : Tok) : Meets (Builtin.«int.__new__» ⟨[.type "int", .str ⟨#[49]⟩ t], []⟩) (Made.int 1).spec :=
 Meets.of_wp fun prog w A R s hs => by
  obtain ⟨hp, g, d, tk, os⟩ := s
  have f1 := F.conv_sub_int
  have f2 := F.madeHere_int
  have f3 := no_int
  have f4 := noIndex
  have f5 := no_trunc
  repeat (any_goals (first | assumption | wp_step))
  refine Eq.mpr (congrArg (fun m => wpAny (model prog w) A.in1 m _ _ _) (show _ = mkInt 1 from ?e)) ?_
  case e => kernel_rfl
  repeat (any_goals (first | assumption | wp_step))
  all_goals exact ⟨_, rfl, hs⟩
section
variable {X : Cx} {cls : Nat → Addr} {E : XK}
theorem call_int0 : CallR X (.type "int") (fun xs H Q => xs = [S [48]] ∧ Q (.int 0) H) := by
 intro pins s σ H xs us Q I r ⟨e, q⟩
 subst e
 obtain ⟨u, rfl, t, rfl⟩ := r.one
 exact call_int_1 (meets_int_new_0 t) (show (Made.int 0).post _ s from ⟨rfl, fun ht => ⟨.int 0, H, I.tok _, ⟨_, rfl⟩, q⟩⟩)
theorem call_int1' : CallR X (.type "int") (fun xs H Q => xs = [S [49]] ∧ Q (.int 1) H) := by
 intro pins s σ H xs us Q I r ⟨e, q⟩
 subst e
 obtain ⟨u, rfl, t, rfl⟩ := r.one
 exact call_int_1 (meets_int_new_1 t) (show (Made.int 1).post _ s from ⟨rfl, fun ht => ⟨.int 1, H, I.tok _, ⟨_, rfl⟩, q⟩⟩)
theorem cd_int : CaD X cls E (.type "int") bIntD := by
 refine ⟨_, call_int1.or (call_int0.or call_int1'), fun A H Q ds vs L r z q => ?_⟩
 unfold bIntD at q
 split at q
 ·rename_i i
  obtain ⟨v, rfl, rv⟩ := reps1 r
  exact .inl (.inl ⟨i, by rw [repI rv], q _ H (.refl _) rep_int trivial⟩)
 ·rename_i b
  obtain ⟨v, rfl, rv⟩ := reps1 r
  exact .inl (.inr ⟨b, by rw [repB rv], q _ H (.refl _) rep_int trivial⟩)
 ·obtain ⟨v, rfl, rv⟩ := reps1 r
  exact .inr (.inl ⟨by rw [repS rv], q _ H (.refl _) rep_int trivial⟩)
 ·obtain ⟨v, rfl, rv⟩ := reps1 r
  exact .inr (.inr ⟨by rw [repS rv], q _ H (.refl _) rep_int trivial⟩)
 ·exact (show False from q).elim
end
abbrev IsTA (h : Heap) (T : Addr) (xs : Array Value) : Prop := h.get? T = some { cls := .type "tuple", data := .seq xs }
theorem updSeq {prog : Program} {w : World} {A : Around} {E : Value → Shared → Prop} {s : Shared} {T : Addr} {xs : Array Value} {x : Value} {k : Nat} {Q : Unit → Shared → Prop} (hT : IsTA s.heap T xs)
  (h : ∀ h', IsTA h' T (xs.setIfInBounds k x) → Heap.SameBut T s.heap h' → Q () { s with heap := h' }) (hx : xs.size ≤ 100 := by simp) :
  wpAny (model prog w) A (updateSeq T (·.setIfInBounds k x)) Q E s := by
 refine wpAny_updateSeq hT rfl (h _ ?_ (Heap.SameBut.update ..)) (hz := Nat.le_trans hx (by decide)) (_hz' := by rw [Array.size_setIfInBounds]; exact Nat.le_trans hx (by decide))
 show Heap.get? _ _ = _
 rw [Heap.get?_update_self _ hT rfl]
 simp [Obj.mapSeq]
structure ZA2 (z TI TO i1 i2 : Addr) (f1 : List Addr) (f2 : List Addr) : Prop where
 TIz : TI ≠ z
 TOz : TO ≠ z
 TITO : TI ≠ TO
 z1 : i1 ≠ z
 TI1 : TI ≠ i1
 TO1 : TO ≠ i1
 fz1 : z ∉ f1
 fT1 : TO ∉ f1
 i12 : i1 ≠ i2
 f12 : i2 ∉ f1
 z2 : i2 ≠ z
 TI2 : TI ≠ i2
 TO2 : TO ≠ i2
 fz2 : z ∉ f2
 fT2 : TO ∉ f2
 i21 : i2 ≠ i1
 f21 : i1 ∉ f2
section
variable {prog : Program} {w : World} {A : Around} {E : Value → Shared → Prop} {s : Shared} {z TI TO i1 i2 : Addr} {f1 : List Addr} {n1 : Nat} {P1 : Nat → Value → Prop} {S1 : Nat → Heap → Prop} {f2 : List Addr} {n2 : Nat} {P2 : Nat → Value → Prop} {S2 : Nat → Heap → Prop}
theorem zn_item2 (L : ZA2 z TI TO i1 i2 f1 f2) (D1 : Draws prog w A i1 f1 n1 P1 S1) (D2 : Draws prog w A i2 f2 n2 P2 S2) {m : Nat} {a1 a2 : Value} (hz : IsZip s.heap z TI TO .none) (hTI : IsTA s.heap TI #[.ref i1, .ref i2]) (hTO : IsTA s.heap TO #[a1, a2]) (st1 : S1 m s.heap) (st2 : S2 m s.heap) (h1 : m < n1) (h2 : m < n2) {Q : Value → Shared → Prop}
  (hQ : ∀ x1 x2 h' tk, P1 m x1 → P2 m x2 → IsZip h' z TI TO (rawInt s.heap.objs.size) → IsTA h' TO #[x1, x2] → S1 (m + 1) h' → S2 (m + 1) h' → IsTA h' s.heap.objs.size #[x1, x2] → (∀ c o, c ≠ z → c ≠ TO → c ≠ i1 → c ≠ i2 → s.heap.get? c = some o → h'.get? c = some o) → Q (.ref s.heap.objs.size) { s with heap := h', toks := tk }) :
  wpAny (model prog w) A (Builtin.«zip.__next__» ⟨[.ref z], []⟩) (fun fin s' => ∃ v, fin = .done (.ret v) ∧ Q v s') E s := by
 show wpAny _ _ (field (.ref z) 2 >>= _) _ _ _
 refine wpAny_bind (wpAny_field hz rfl (x := .bool false) rfl ?_)
 show wpAny _ _ (field (.ref z) 3 >>= _) _ _ _
 refine wpAny_bind (wpAny_field hz rfl (x := .ref TI) rfl ?_)
 refine wpAny_bind (wpAny_seqItems hTI rfl ?_)
 show wpAny _ _ (Builtin.SmallTypes.ownedTupleIsFree (.ref z) >>= _) _ _ _
 refine wpAny_bind ?_
 unfold Builtin.SmallTypes.ownedTupleIsFree
 refine wpAny_bind (wpAny_field hz rfl (x := .none) rfl (wpAny_pure ?_))
 simp only [if_true]
 refine wpAny_bind (wpAny_rule ?_)
 refine wpAny_bind (wpAny_field hz rfl (x := .ref TO) rfl ?_)
 refine wpAny_bind (wpAny_setField_rec hz (by simp) fun g0 hz0 hs0 => ?_)
 replace hz0 : IsZip g0 z TI TO .ellipsis := hz0
 refine wpAny_bind ?_
 simp only [List.zipIdx_cons, List.zipIdx_nil, List.forIn_cons, List.forIn_nil]
 have tO0 : IsTA g0 TO #[a1, a2] := hs0.extBut _ _ L.TOz hTO
 have s0_1 := D1.frame _ _ _ st1 fun b hb o e => hs0.extBut b o (fun q => L.fz1 (q ▸ hb)) e
 have s0_2 := D2.frame _ _ _ st2 fun b hb o e => hs0.extBut b o (fun q => L.fz2 (q ▸ hb)) e
 refine wpAny_bind (wpAny_bind (wpAny_onRaise ?_))
 show wpAny _ _ (Builtin.SmallTypes.nextOf (.ref i1) >>= _) _ _ _
 refine wpAny_bind (D1.item m _ _ _ h1 s0_1 fun x1 g1a tk1 px1 s1a_1 hs1a => wpAny_pure ?_)
 have tO1a : IsTA g1a TO #[a1, a2] := hs1a.extBut _ _ L.TO1 tO0
 refine wpAny_bind (wpAny_seqItems tO1a rfl ?_)
 refine wpAny_bind (updSeq tO1a fun g1 tO1 hs1 => ?_)
 replace tO1 : IsTA g1 TO #[x1, a2] := tO1
 refine wpAny_bind (wpAny_letGo (wpAny_pure ?_))
 have s1_1 := D1.frame _ _ _ s1a_1 fun b hb o e => hs1.extBut b o (fun q => L.fT1 (q ▸ hb)) e
 have s1_2 := D2.frame _ _ _ (D2.frame _ _ _ s0_2 fun b hb o e => hs1a.extBut b o (fun q => L.f21 (q ▸ hb)) e) fun b hb o e => hs1.extBut b o (fun q => L.fT2 (q ▸ hb)) e
 have hz1 : IsZip g1 z TI TO .ellipsis := hs1.extBut _ _ L.TOz.symm (hs1a.extBut _ _ L.z1.symm hz0)
 refine wpAny_bind (wpAny_bind (wpAny_onRaise ?_))
 show wpAny _ _ (Builtin.SmallTypes.nextOf (.ref i2) >>= _) _ _ _
 refine wpAny_bind (D2.item m _ _ _ h2 s1_2 fun x2 g2a tk2 px2 s2a_2 hs2a => wpAny_pure ?_)
 have tO2a : IsTA g2a TO #[x1, a2] := hs2a.extBut _ _ L.TO2 tO1
 refine wpAny_bind (wpAny_seqItems tO2a rfl ?_)
 refine wpAny_bind (updSeq tO2a fun g2 tO2 hs2 => ?_)
 replace tO2 : IsTA g2 TO #[x1, x2] := tO2
 refine wpAny_bind (wpAny_letGo (wpAny_pure (wpAny_pure ?_)))
 have s2_1 := D1.frame _ _ _ (D1.frame _ _ _ s1_1 fun b hb o e => hs2a.extBut b o (fun q => L.f12 (q ▸ hb)) e) fun b hb o e => hs2.extBut b o (fun q => L.fT1 (q ▸ hb)) e
 have s2_2 := D2.frame _ _ _ s2a_2 fun b hb o e => hs2.extBut b o (fun q => L.fT2 (q ▸ hb)) e
 have hz2 : IsZip g2 z TI TO .ellipsis := hs2.extBut _ _ L.TOz.symm (hs2a.extBut _ _ L.z2.symm hz1)
 refine wpAny_bind (wpAny_seqItems tO2 rfl ?_)
 refine wpAny_bind (wpAny_newTuple ?_)
 have hsz : g2.objs.size = s.heap.objs.size := by rw [hs2.1, hs2a.1, hs1.1, hs1a.1, hs0.1]
 have hk2 : ∀ c o, c ≠ z → c ≠ TO → c ≠ i1 → c ≠ i2 → s.heap.get? c = some o → g2.get? c = some o := fun c o c1 c2 d1 d2 e => hs2.extBut _ _ c2 (hs2a.extBut _ _ d2 (hs1.extBut _ _ c2 (hs1a.extBut _ _ d1 (hs0.extBut _ _ c1 e))))
 have hzlt : z < g2.objs.size := Heap.lt_size hz2
 show wpAny _ _ (Builtin.SmallTypes.ownedTupleHandOut (.ref z) (.ref g2.objs.size) >>= _) _ _ _
 refine wpAny_bind ?_
 unfold Builtin.SmallTypes.ownedTupleHandOut
 have hz6 : IsZip (g2.push { cls := .type "tuple", data := .seq #[x1, x2] }) z TI TO .ellipsis := Heap.get?_push_of_some _ hz2
 refine wpAny_bind (wpAny_setField_rec hz6 (by simp) fun h7 hz7 hs7 => ?_)
 replace hz7 : IsZip h7 z TI TO (rawInt g2.objs.size) := hz7
 refine wpAny_setField_rec hz7 (by simp) fun h8 hz8 hs8 => ?_
 replace hz8 : IsZip h8 z TI TO (rawInt g2.objs.size) := hz8
 have up : ∀ c o, c ≠ z → g2.get? c = some o → h8.get? c = some o := fun c o c1 e => hs8.extBut _ _ c1 (hs7.extBut _ _ c1 (Heap.get?_push_of_some _ e))
 have hT8 : IsTA h8 g2.objs.size #[x1, x2] := hs8.extBut _ _ (Nat.ne_of_gt hzlt) (hs7.extBut _ _ (Nat.ne_of_gt hzlt) (Heap.get?_push_size _ rfl))
 rw [hsz] at hz8 hT8
 refine wpAny_pure ⟨_, rfl, ?_⟩
 show Q (.ref g2.objs.size) _
 rw [hsz]
 exact hQ x1 x2 h8 _ px1 px2 hz8 (up _ _ L.TOz tO2) (D1.frame _ _ _ s2_1 fun b hb o e => up b o (fun q => L.fz1 (q ▸ hb)) e) (D2.frame _ _ _ s2_2 fun b hb o e => up b o (fun q => L.fz2 (q ▸ hb)) e) hT8 fun c o c1 c2 d1 d2 e => up c o c1 (hk2 c o c1 c2 d1 d2 e)
end
structure ZA3 (z TI TO i1 i2 i3 : Addr) (f1 : List Addr) (f2 : List Addr) (f3 : List Addr) : Prop where
 TIz : TI ≠ z
 TOz : TO ≠ z
 TITO : TI ≠ TO
 z1 : i1 ≠ z
 TI1 : TI ≠ i1
 TO1 : TO ≠ i1
 fz1 : z ∉ f1
 fT1 : TO ∉ f1
 i12 : i1 ≠ i2
 f12 : i2 ∉ f1
 i13 : i1 ≠ i3
 f13 : i3 ∉ f1
 z2 : i2 ≠ z
 TI2 : TI ≠ i2
 TO2 : TO ≠ i2
 fz2 : z ∉ f2
 fT2 : TO ∉ f2
 i21 : i2 ≠ i1
 f21 : i1 ∉ f2
 i23 : i2 ≠ i3
 f23 : i3 ∉ f2
 z3 : i3 ≠ z
 TI3 : TI ≠ i3
 TO3 : TO ≠ i3
 fz3 : z ∉ f3
 fT3 : TO ∉ f3
 i31 : i3 ≠ i1
 f31 : i1 ∉ f3
 i32 : i3 ≠ i2
 f32 : i2 ∉ f3
section
variable {prog : Program} {w : World} {A : Around} {E : Value → Shared → Prop} {s : Shared} {z TI TO i1 i2 : Addr} {f1 : List Addr} {n1 : Nat} {P1 : Nat → Value → Prop} {S1 : Nat → Heap → Prop} {f2 : List Addr} {n2 : Nat} {P2 : Nat → Value → Prop} {S2 : Nat → Heap → Prop}
theorem zn_end2 (L : ZA2 z TI TO i1 i2 f1 f2) (D1 : Draws prog w A i1 f1 n1 P1 S1) (D2 : Draws prog w A i2 f2 n2 P2 S2) {a1 a2 : Value} (hz : IsZip s.heap z TI TO .none) (hTI : IsTA s.heap TI #[.ref i1, .ref i2]) (hTO : IsTA s.heap TO #[a1, a2]) (st1 : S1 (min (n1) n2) s.heap) (st2 : S2 (min (n1) n2) s.heap) {Q : Fin → Shared → Prop}
  (hE : ∀ h' e tk, (∀ c o, c ≠ z → c ≠ TO → c ≠ i1 → c ≠ i2 → s.heap.get? c = some o → h'.get? c = some o) → (∃ o, h'.get? e = some o ∧ o.cls = .type "StopIteration") → E (.ref e) { s with heap := h', toks := tk }) :
  wpAny (model prog w) A (Builtin.«zip.__next__» ⟨[.ref z], []⟩) Q E s := by
 generalize hm : min (n1) n2 = m at st1 st2
 show wpAny _ _ (field (.ref z) 2 >>= _) _ _ _
 refine wpAny_bind (wpAny_field hz rfl (x := .bool false) rfl ?_)
 show wpAny _ _ (field (.ref z) 3 >>= _) _ _ _
 refine wpAny_bind (wpAny_field hz rfl (x := .ref TI) rfl ?_)
 refine wpAny_bind (wpAny_seqItems hTI rfl ?_)
 show wpAny _ _ (Builtin.SmallTypes.ownedTupleIsFree (.ref z) >>= _) _ _ _
 refine wpAny_bind ?_
 unfold Builtin.SmallTypes.ownedTupleIsFree
 refine wpAny_bind (wpAny_field hz rfl (x := .none) rfl (wpAny_pure ?_))
 simp only [if_true]
 refine wpAny_bind (wpAny_rule ?_)
 refine wpAny_bind (wpAny_field hz rfl (x := .ref TO) rfl ?_)
 refine wpAny_bind (wpAny_setField_rec hz (by simp) fun g0 hz0 hs0 => ?_)
 replace hz0 : IsZip g0 z TI TO .ellipsis := hz0
 refine wpAny_bind ?_
 simp only [List.zipIdx_cons, List.zipIdx_nil, List.forIn_cons, List.forIn_nil]
 have tO0 : IsTA g0 TO #[a1, a2] := hs0.extBut _ _ L.TOz hTO
 have s0_1 := D1.frame _ _ _ st1 fun b hb o e => hs0.extBut b o (fun q => L.fz1 (q ▸ hb)) e
 have s0_2 := D2.frame _ _ _ st2 fun b hb o e => hs0.extBut b o (fun q => L.fz2 (q ▸ hb)) e
 have k0 : ∀ c o, c ≠ z → c ≠ TO → c ≠ i1 → c ≠ i2 → s.heap.get? c = some o → g0.get? c = some o := fun c o c1 c2 d1 d2 e => hs0.extBut _ _ c1 e
 refine wpAny_bind (wpAny_bind (wpAny_onRaise ?_))
 show wpAny _ _ (Builtin.SmallTypes.nextOf (.ref i1) >>= _) _ _ _
 by_cases q1 : n1 ≤ m
 ·have e1 : n1 = m := by omega
  rw [← e1] at s0_1
  refine wpAny_bind (D1.done _ _ _ s0_1 fun g e he hS => ?_)
  obtain ⟨oe, hoe, hce⟩ := hS
  have hzg : IsZip g z TI TO .ellipsis := he _ _ L.z1.symm hz0
  have hez : e ≠ z := fun q => by subst q; rw [hzg] at hoe; cases hoe; simp at hce
  refine wpAny_setField_rec hzg (by simp) fun h3 _ hs3 => hE h3 e _ (fun c o c1 c2 d1 d2 x => hs3.extBut _ _ c1 (he _ _ d1 (k0 c o c1 c2 d1 d2 x))) ⟨oe, hs3.extBut _ _ hez hoe, hce⟩
 ·refine wpAny_bind (D1.item m _ _ _ (by omega) s0_1 fun x1 g1a tk1 px1 s1a_1 hs1a => wpAny_pure ?_)
  have tO1a : IsTA g1a TO #[a1, a2] := hs1a.extBut _ _ L.TO1 tO0
  refine wpAny_bind (wpAny_seqItems tO1a rfl ?_)
  refine wpAny_bind (updSeq tO1a fun g1 tO1 hs1 => ?_)
  replace tO1 : IsTA g1 TO #[x1, a2] := tO1
  refine wpAny_bind (wpAny_letGo (wpAny_pure ?_))
  have s1_1 := D1.frame _ _ _ s1a_1 fun b hb o e => hs1.extBut b o (fun q => L.fT1 (q ▸ hb)) e
  have s1_2 := D2.frame _ _ _ (D2.frame _ _ _ s0_2 fun b hb o e => hs1a.extBut b o (fun q => L.f21 (q ▸ hb)) e) fun b hb o e => hs1.extBut b o (fun q => L.fT2 (q ▸ hb)) e
  have hz1 : IsZip g1 z TI TO .ellipsis := hs1.extBut _ _ L.TOz.symm (hs1a.extBut _ _ L.z1.symm hz0)
  have k1 : ∀ c o, c ≠ z → c ≠ TO → c ≠ i1 → c ≠ i2 → s.heap.get? c = some o → g1.get? c = some o := fun c o c1 c2 d1 d2 e => hs1.extBut _ _ c2 (hs1a.extBut _ _ d1 (k0 c o c1 c2 d1 d2 e))
  refine wpAny_bind (wpAny_bind (wpAny_onRaise ?_))
  show wpAny _ _ (Builtin.SmallTypes.nextOf (.ref i2) >>= _) _ _ _
  have e2 : n2 = m := by omega
  rw [← e2] at s1_2
  refine wpAny_bind (D2.done _ _ _ s1_2 fun g e he hS => ?_)
  obtain ⟨oe, hoe, hce⟩ := hS
  have hzg : IsZip g z TI TO .ellipsis := he _ _ L.z2.symm hz1
  have hez : e ≠ z := fun q => by subst q; rw [hzg] at hoe; cases hoe; simp at hce
  refine wpAny_setField_rec hzg (by simp) fun h3 _ hs3 => hE h3 e _ (fun c o c1 c2 d1 d2 x => hs3.extBut _ _ c1 (he _ _ d2 (k1 c o c1 c2 d1 d2 x))) ⟨oe, hs3.extBut _ _ hez hoe, hce⟩
end
section
variable {prog : Program} {w : World} {A : Around} {E : Value → Shared → Prop} {s : Shared}
theorem nextOf_tup_item {it l : Addr} {i : Nat} {items} {x : Value} {Q : Value → Shared → Prop} (hit : s.heap.IsTupleIter it l i) (hl : s.heap.IsTuple l items) (hx : items[i]? = some x)
  (hQ : ∀ h', h'.IsTupleIter it l (i + 1) → Heap.SameBut it s.heap h' → Q x { s with heap := h' }) :
  wpAny (model prog w) A (Builtin.SmallTypes.nextOf (.ref it)) Q E s := by
 obtain ⟨o, ho, hc, hd⟩ := id hit
 obtain ⟨ol, hol, _, nl, hdl⟩ := hl
 unfold Builtin.SmallTypes.nextOf
 refine wpAny_bind (wpAny_callSpecial?_slot (name := Str.ofString "__next__") hit.typeIs F.slot_tuple_iterator_next (wpAny_call_entry F.slot_tuple_iterator_next hit.typeIs F.entry_tuple_iterator_next ?_ (F.args_tuple_iterator_next_1 _)))
 show wpAny _ _ (field (.ref it) 0 >>= _) _ _ s
 refine wpAny_bind (wpAny_field ho hd (x := .ref l) rfl ?_)
 show wpAny _ _ (if (Value.ref l == Value.none) = true then _ else _) _ _ s
 rw [if_neg (show ¬ ((Value.ref l == Value.none) = true) from Bool.false_ne_true)]
 show wpAny _ _ (field (.ref it) 1 >>= _) _ _ s
 refine wpAny_bind (wpAny_field ho hd (x := .int i 0) rfl ?_)
 show wpAny _ _ (seqItems? (.ref l) >>= _) _ _ s
 refine wpAny_bind (wpAny_seqItems hol hdl ?_)
 simp only [Int.toNat_natCast, hx]
 refine wpAny_bind (wpAny_setField ho hd (by simp) (wpAny_pure ⟨x, rfl, wpAny_pure (hQ _ ?_ (Heap.SameBut.update ..))⟩))
 exact ⟨_, Heap.get?_update_self _ ho (Obj.isFreed_of_fields (Obj.data_mapFields hd _)), (Obj.cls_mapFields ..).trans hc, by rw [Obj.data_mapFields hd]; simp [rawInt]⟩
theorem nextOf_tup_end {it l : Addr} {i : Nat} {items} {Q : Value → Shared → Prop} (hh : A.handled = none) (hit : s.heap.IsTupleIter it l i) (hl : s.heap.IsTuple l items) (hx : items[i]? = none)
  (hE : ∀ h' e, Heap.ExtBut it s.heap h' → (∃ o, h'.get? e = some o ∧ o.cls = .type "StopIteration") → E (.ref e) { s with heap := h' }) :
  wpAny (model prog w) A (Builtin.SmallTypes.nextOf (.ref it)) Q E s := by
 obtain ⟨o, ho, hc, hd⟩ := id hit
 obtain ⟨ol, hol, _, nl, hdl⟩ := hl
 unfold Builtin.SmallTypes.nextOf
 refine wpAny_bind (wpAny_callSpecial?_slot (name := Str.ofString "__next__") hit.typeIs F.slot_tuple_iterator_next (wpAny_call_entry F.slot_tuple_iterator_next hit.typeIs F.entry_tuple_iterator_next ?_ (F.args_tuple_iterator_next_1 _)))
 show wpAny _ _ (field (.ref it) 0 >>= _) _ _ s
 refine wpAny_bind (wpAny_field ho hd (x := .ref l) rfl ?_)
 show wpAny _ _ (if (Value.ref l == Value.none) = true then _ else _) _ _ s
 rw [if_neg (show ¬ ((Value.ref l == Value.none) = true) from Bool.false_ne_true)]
 show wpAny _ _ (field (.ref it) 1 >>= _) _ _ s
 refine wpAny_bind (wpAny_field ho hd (x := .int i 0) rfl ?_)
 show wpAny _ _ (seqItems? (.ref l) >>= _) _ _ s
 refine wpAny_bind (wpAny_seqItems hol hdl ?_)
 simp only [Int.toNat_natCast, hx]
 refine wpAny_bind (wpAny_rule (wpAny_bind (wpAny_setField ho hd (by simp) ?_)))
 show wpAny _ _ (newExc (.type "StopIteration") [] >>= _) _ _ _
 refine wpAny_bind ?_
 simp only [newExc, newTuple]
 refine wpAny_bind (wpAny_newObj_type ?_ (by size_fits))
 refine wpAny_bind (m := firstArgMember _ _) (wpAny_of_eq (a := Value.none) (by first | rfl | (simp only [firstArgMember]; rfl)) ?_)
 refine wpAny_newObj_type ?_ (by size_fits)
 simp only [raiseNew]
 refine wpAny_bind (wpAny_handled ?_)
 first | rw [show A.in1.handled = none from hh] | rw [hh]
 refine wpAny_bind (wpAny_pure (wpAny_throw ?_))
 exact hE _ _ (((Heap.SameBut.update ..).extBut.push _).push _) ⟨_, Heap.get?_push_size _ rfl, rfl⟩
theorem drawsTup (hh : A.handled = none) (it l : Addr) (hne : l ≠ it) (items : Array Value) : Draws prog w A it [it, l] items.size (fun i v => items[i]? = some v) (fun i h => h.IsTupleIter it l i ∧ h.IsTuple l items) where
 live := fun _ _ st => let ⟨o, ho, _⟩ := st.1; ⟨o, ho⟩
 frame := fun _ _ _ st hk => ⟨let ⟨o, ho, r⟩ := st.1; ⟨o, hk it (by simp) o ho, r⟩, let ⟨o, ho, r⟩ := st.2; ⟨o, hk l (by simp) o ho, r⟩⟩
 item := fun i s Q E hi st hQ => by
  refine nextOf_tup_item st.1 st.2 (x := items[i]) (by simp [hi]) fun h' hit' hs' => ?_
  exact hQ _ h' s.toks (by simp [hi]) ⟨hit', st.2.extBut hs'.extBut hne⟩ hs'
 done := fun s Q E st hE => nextOf_tup_end hh st.1 st.2 (by simp) hE
end
inductive Src where
 | L (a : Addr) | T (l : List Nat) (t : Tok) | U (a : Addr)
def Src.it : Src → Addr → Nat → Heap → Prop
 | .L a, j, i, h => h.IsListIter j a i
 | .T l t, j, i, h => h.IsStrIter j (strIterType ⟨l.toArray⟩) ⟨l.toArray⟩ t i
 | .U a, j, i, h => h.IsTupleIter j a i
def Src.vals (K : PySem.W.Frag) (H : Hp) : Src → List V → Prop
 | .L a, xs => SqL K H a xs
 | .T l _, xs => xs = sgs l
 | .U a, xs => SqT K H a xs
def Src.fp : Src → Addr → List Addr
 | .L a, j => [j, a]
 | .T _ _, j => [j]
 | .U a, j => [j, a]
def Src.con : Src → List Value → Heap → Prop
 | .L a, us, h => h.IsList a us.toArray
 | .T _ _, _, _ => True
 | .U a, us, h => h.IsTuple a us.toArray
def Src.num : Src → List Value → Nat
 | .L _, us => us.length
 | .T l _, _ => l.length
 | .U _, us => us.length
def Src.P : Src → List Value → Nat → Value → Prop
 | .L _, us, i, v => us.toArray[i]? = some v
 | .T l _, _, i, v => ∃ c u, l[i]? = some c ∧ v = .str ⟨#[c]⟩ u
 | .U _, us, i, v => us.toArray[i]? = some v
def Src.lt : Src → Nat → Prop
 | .L a, n => a < n
 | .T _ _, _ => True
 | .U a, n => a < n
def Src.val : Src → Value
 | .L a => .ref a
 | .T l t => .str ⟨l.toArray⟩ t
 | .U a => .ref a
def Src.obj : Src → Obj
 | .L a => { cls := .type "list_iterator", data := .fields #[.ref a, .int 0 0] }
 | .T l t => { cls := .type (strIterType ⟨l.toArray⟩), data := .fields #[.str ⟨l.toArray⟩ t, .int 0 0] }
 | .U a => { cls := .type "tuple_iterator", data := .fields #[.ref a, .int 0 0] }
theorem Src.draws {prog : Program} {w : World} {A : Around} (hh : A.handled = none) (sc : Src) {j : Addr} (hj : sc.lt j) (us : List Value) : Draws prog w A j (sc.fp j) (sc.num us) (sc.P us) (fun i h => sc.it j i h ∧ sc.con us h) := by
 cases sc with
 | L a => exact Draws.list hh j a (Nat.ne_of_lt hj) us.toArray
 | U a => exact drawsTup hh j a (Nat.ne_of_lt hj) us.toArray
 | T l t =>
  have go : ∀ ty, ty = strIterType ⟨l.toArray⟩ → Draws prog w A j [j] l.length (fun i v => ∃ c u, l[i]? = some c ∧ v = .str ⟨#[c]⟩ u) (fun i h => h.IsStrIter j ty ⟨l.toArray⟩ t i) := fun ty hty => by
   have ht : ty = "str_ascii_iterator" ∨ ty = "str_iterator" := by
    rw [hty]
    unfold strIterType
    split
    ·exact .inl rfl
    ·exact .inr rfl
   rcases ht with h | h
   ·rw [h]; simpa using Draws.strAscii (prog := prog) (w := w) hh j ⟨l.toArray⟩ t
   ·rw [h]; simpa using Draws.strWide (prog := prog) (w := w) hh j ⟨l.toArray⟩ t
  have D := go _ rfl
  exact ⟨fun i h st => D.live i h st.1, fun i h h' st k => ⟨D.frame i h h' st.1 k, trivial⟩, fun i s Q E hi st hQ => D.item i s Q E hi st.1 fun x h' tk p st' sb => hQ x h' tk p ⟨st', trivial⟩ sb, fun s Q E st hE => D.done s Q E st.1 hE⟩
theorem Src.use {X : Cx} {pins : List (Addr × Obj)} {σ : St} {H : Hp} {s : Shared} (I : Inv X pins σ H s) {sc : Src} {xs : List V} (hv : sc.vals X.K H xs) : ∃ us, sc.con us s.heap ∧ sc.num us = xs.length ∧ ∀ i v, sc.P us i v → ∃ x, xs[i]? = some x ∧ RelV x v := by
 cases sc with
 | L a =>
  obtain ⟨us, rv, p, _⟩ := I.list hv
  refine ⟨us, p.isList, rv.length.symm, fun i v h => ?_⟩
  have h' : us[i]? = some v := by simpa using (show us.toArray[i]? = some v from h)
  have hi : i < us.length := (List.getElem?_eq_some_iff.mp h').1
  have hx : i < xs.length := by rw [rv.length]; exact hi
  obtain ⟨u, hu, ru⟩ := rv.get (x := xs[i]) (i := i) (by simp [hx])
  rw [h'] at hu
  cases hu
  exact ⟨xs[i], by simp [hx], ru⟩
 | U a =>
  obtain ⟨us, rv, p, _⟩ := I.tuple hv
  refine ⟨us, p, rv.length.symm, fun i v h => ?_⟩
  have h' : us[i]? = some v := by simpa using (show us.toArray[i]? = some v from h)
  have hi : i < us.length := (List.getElem?_eq_some_iff.mp h').1
  have hx : i < xs.length := by rw [rv.length]; exact hi
  obtain ⟨u, hu, ru⟩ := rv.get (x := xs[i]) (i := i) (by simp [hx])
  rw [h'] at hu
  cases hu
  exact ⟨xs[i], by simp [hx], ru⟩
 | T l t =>
  have e : xs = sgs l := hv
  subst e
  refine ⟨[], trivial, (sgs_length l).symm, fun i v h => ?_⟩
  obtain ⟨c, u, hc, rfl⟩ := h
  exact ⟨S [c], by simp [sgs, hc], ⟨u, rfl⟩⟩
theorem Src.inj {X : Cx} {pins : List (Addr × Obj)} {σ : St} {H : Hp} {s : Shared} (I : Inv X pins σ H s) {sc : Src} {xs ys : List V} (h : sc.vals X.K H xs) (h' : sc.vals X.K H ys) : xs = ys := by
 cases sc with
 | L a => exact I.list_inj h h'
 | U a => exact I.tuple_inj h h'
 | T l t => exact (show xs = sgs l from h).trans (show ys = sgs l from h').symm
theorem Src.it_keep {sc : Src} {j : Addr} {i : Nat} {h h' : Heap} (x : sc.it j i h) (k : ∀ o, h.get? j = some o → h'.get? j = some o) : sc.it j i h' := by
 cases sc with
 | L a => exact Heap.IsListIter.at x k
 | U a => obtain ⟨o, e, r⟩ := x; exact ⟨o, k o e, r⟩
 | T l t => obtain ⟨o, e, r⟩ := x; exact ⟨o, k o e, r⟩
theorem Src.it_obj {sc : Src} {j : Addr} {i : Nat} {h : Heap} (x : sc.it j i h) : ∃ o, h.get? j = some o ∧ ∀ v, o.data ≠ .cell v := by
 cases sc with
 | L a => obtain ⟨o, e, c, d⟩ := x; exact ⟨o, e, fun v z => by rw [d] at z; cases z⟩
 | U a => obtain ⟨o, e, c, d⟩ := x; exact ⟨o, e, fun v z => by rw [d] at z; cases z⟩
 | T l t => obtain ⟨o, e, c, d⟩ := x; exact ⟨o, e, fun v z => by rw [d] at z; cases z⟩
theorem Src.it_new {sc : Src} {j : Addr} {h : Heap} (e : h.get? j = some sc.obj) : sc.it j 0 h := by
 cases sc with
 | L a => exact ⟨_, e, rfl, rfl⟩
 | U a => exact ⟨_, e, rfl, rfl⟩
 | T l t => exact ⟨_, e, rfl, rfl⟩
def Src.ok : Src → Heap → Prop
 | .L a, h => ∃ items, h.IsList a items
 | .T _ _, _ => True
 | .U a, h => ∃ items, h.IsTuple a items
theorem Src.iter {prog : Program} {w : World} {A : Around} {E : Value → Shared → Prop} {s : Shared} {sc : Src} {Q : Value → Shared → Prop} (ok : sc.ok s.heap) (hQ : Q (.ref s.heap.objs.size) { s with heap := s.heap.push sc.obj }) : wpAny (model prog w) A (pyIter sc.val) Q E s := by
 cases sc with
 | L a => obtain ⟨items, hl⟩ := ok; exact wpAny_pyIter_list hl hQ
 | U a => obtain ⟨items, hl⟩ := ok; exact wpAny_pyIter_tuple hl hQ
 | T l t => exact wpAny_pyIter_strU hQ
theorem Src.ok_push {sc : Src} {h : Heap} {o : Obj} (x : sc.ok h) : sc.ok (h.push o) := by
 cases sc with
 | L a => obtain ⟨items, hl⟩ := x; exact ⟨items, hl.push _⟩
 | U a => obtain ⟨items, hl⟩ := x; exact ⟨items, hl.push _⟩
 | T l t => trivial
def Itz2 (K : PySem.W.Frag) (s1 s2 : Src) : It :=
 ⟨fun i H => ∃ xs1 xs2, s1.vals K H xs1 ∧ s2.vals K H xs2 ∧ i < min (xs1.length) xs2.length,
  fun i H x H' => ∃ T x1 x2, x = .ref T ∧ H T = none ∧ H' = upd H T (.tup [x1, x2]) ∧ (∀ xs, s1.vals K H xs → xs[i]? = some x1) ∧ (∀ xs, s2.vals K H xs → xs[i]? = some x2),
  fun i H => ∃ xs1 xs2, s1.vals K H xs1 ∧ s2.vals K H xs2 ∧ i = min (xs1.length) xs2.length⟩
theorem turn_z2 {P : Program} {w : World} {K : PySem.W.Frag} {elts : List Expr} {kk : Nat} {tpos : Pos} {z TI TO i1 i2 : Addr} {s1 s2 : Src} (L : ZA2 z TI TO i1 i2 (s1.fp i1) (s2.fp i2)) (l1 : s1.lt i1) (l2 : s2.lt i2) :
  Turn P w K (.Tuple elts kk tpos) (Itz2 K s1 s2) [z, TI, TO, i1, i2] z (fun i h => IsZip h z TI TO .none ∧ IsTA h TI #[.ref i1, .ref i2] ∧ (∃ a1 a2, IsTA h TO #[a1, a2]) ∧ s1.it i1 i h ∧ s2.it i2 i h) where
 mem := by simp
 obj := fun i h st b hb => by
  obtain ⟨hz, hTI, ⟨a1, a2, hTO⟩, t1, t2⟩ := st
  simp only [List.mem_cons, List.not_mem_nil, or_false] at hb
  rcases hb with rfl | rfl | rfl | rfl | rfl
  ·exact ⟨_, hz, fun v z => nomatch z⟩
  ·exact ⟨_, hTI, fun v z => nomatch z⟩
  ·exact ⟨_, hTO, fun v z => nomatch z⟩
  ·exact (Src.it_obj t1)
  ·exact (Src.it_obj t2)
 keep := fun i h h' st k => by
  obtain ⟨hz, hTI, ⟨a1, a2, hTO⟩, t1, t2⟩ := st
  exact ⟨k z (by simp) _ hz, k TI (by simp) _ hTI, ⟨a1, a2, k TO (by simp) _ hTO⟩, (Src.it_keep t1 fun o e => k i1 (by simp) o e), (Src.it_keep t2 fun o e => k i2 (by simp) o e)⟩
 item := by
  intro X hP hw hK hc i pins s σ H E I hf st hg
  subst hP hw hK
  obtain ⟨xs1, xs2, hq1, hq2, hi⟩ := hg
  obtain ⟨us1, c1, m1, r1⟩ := Src.use I hq1
  obtain ⟨us2, c2, m2, r2⟩ := Src.use I hq2
  obtain ⟨hz, hTI, ⟨a1, a2, hTO⟩, t1, t2⟩ := st
  have hT : s.TypeIs (.ref z) "zip" := ⟨_, hz, rfl⟩
  have D1 := Src.draws (prog := X.prog) (w := X.w) (A := X.A.in1) (I.ok.hd hc) s1 l1 us1
  have D2 := Src.draws (prog := X.prog) (w := X.w) (A := X.A.in1) (I.ok.hd hc) s2 l2 us2
  unfold pyNext
  refine wpAny_bind (wpAny_attempt (wpAny_callSpecial?_slot (name := Str.ofString "__next__") hT F.slot_zip_next (wpAny_call_entry F.slot_zip_next hT F.entry_zip_next (zn_item2 L D1 D2 hz hTI hTO ⟨t1, c1⟩ ⟨t2, c2⟩ (by rw [m1]; omega) (by rw [m2]; omega) fun v1 v2 h' tk p1 p2 y1 y2 w1 w2 y3 hk => wpAny_pure ?_) (F.args_zip_next_1 _))))
  refine (fun ht => ⟨_, rfl, wpAny_letOwnedTupleGo_zip y1 fun h'' hz'' hs'' => ?_⟩)
  obtain ⟨x1, gx1, rx1⟩ := r1 i v1 p1
  obtain ⟨x2, gx2, rx2⟩ := r2 i v2 p2
  have lt : ∀ {c o}, s.heap.get? c = some o → s.heap.objs.size ≠ c := fun e => Nat.ne_of_gt (Heap.lt_size e)
  have hTz : s.heap.objs.size ≠ z := lt hz
  have kAll : ∀ b o, b ∉ [z, TO, i1, i2] → s.heap.get? b = some o → h''.get? b = some o := fun b o hb e => hs''.extBut _ _ (fun q => hb (by simp [q])) (hk b o (fun q => hb (by simp [q])) (fun q => hb (by simp [q])) (fun q => hb (by simp [q])) (fun q => hb (by simp [q])) e)
  have I2 : Inv X pins σ (upd H s.heap.objs.size (.tup [x1, x2])) { s with heap := h'', toks := tk } :=
   I.turnedT (ch := [z, TO, i1, i2]) (fun b hb => hf b (by simp only [List.mem_cons, List.not_mem_nil, or_false] at hb ⊢; rcases hb with h | h | h | h <;> simp [h])) kAll (Nat.le_refl _)
    ⟨by show 2 ≤ sizeLine; decide, [v1, v2], (.cons rx1 (.cons rx2 .nil)), ⟨_, hs''.extBut _ _ hTz y3, rfl, _, rfl⟩⟩
  refine (fun ht => ⟨.ref s.heap.objs.size, _, I2, rfl, ⟨s.heap.objs.size, x1, x2, rfl, I.hok.fresh (Nat.le_refl _), rfl, (fun xs h => by rw [Src.inj I h hq1]; exact gx1), (fun xs h => by rw [Src.inj I h hq2]; exact gx2)⟩, ⟨hz'', hs''.extBut _ _ L.TIz (hk _ _ L.TIz L.TITO L.TI1 L.TI2 hTI), ⟨_, _, hs''.extBut _ _ L.TOz y2⟩, (Src.it_keep w1.1 fun o e => hs''.extBut _ _ L.z1 e), (Src.it_keep w2.1 fun o e => hs''.extBut _ _ L.z2 e)⟩, fun b hb => ?_⟩)
  have bne : b ≠ s.heap.objs.size := by
   rintro rfl
   have st2 : ∃ o, s.heap.get? s.heap.objs.size = some o := by
    simp only [List.mem_cons, List.not_mem_nil, or_false] at hb
    rcases hb with h | h | h | h | h
    ·rw [h]; exact ⟨_, hz⟩
    ·rw [h]; exact ⟨_, hTI⟩
    ·rw [h]; exact ⟨_, hTO⟩
    ·rw [h]; obtain ⟨o, e, _⟩ := (Src.it_obj t1); exact ⟨o, e⟩
    ·rw [h]; obtain ⟨o, e, _⟩ := (Src.it_obj t2); exact ⟨o, e⟩
   obtain ⟨o, e⟩ := st2
   exact absurd (Heap.lt_size e) (Nat.lt_irrefl _)
  rw [upd_ne bne]
  exact (hf b hb).1
 done := by
  intro X hP hw hK hc i pins s σ H E I hf st hg
  subst hP hw hK
  obtain ⟨xs1, xs2, hq1, hq2, hi⟩ := hg
  obtain ⟨us1, c1, m1, r1⟩ := Src.use I hq1
  obtain ⟨us2, c2, m2, r2⟩ := Src.use I hq2
  obtain ⟨hz, hTI, ⟨a1, a2, hTO⟩, t1, t2⟩ := st
  have hT : s.TypeIs (.ref z) "zip" := ⟨_, hz, rfl⟩
  have D1 := Src.draws (prog := X.prog) (w := X.w) (A := X.A.in1) (I.ok.hd hc) s1 l1 us1
  have D2 := Src.draws (prog := X.prog) (w := X.w) (A := X.A.in1) (I.ok.hd hc) s2 l2 us2
  have ei : i = min (s1.num us1) (s2.num us2) := by rw [m1, m2]; exact hi
  rw [ei] at t1 t2
  unfold pyNext
  refine wpAny_bind (wpAny_attempt (wpAny_callSpecial?_slot (name := Str.ofString "__next__") hT F.slot_zip_next (wpAny_call_entry F.slot_zip_next hT F.entry_zip_next (zn_end2 L D1 D2 hz hTI hTO ⟨t1, c1⟩ ⟨t2, c2⟩ fun h' e tk hk he => ?_) (F.args_zip_next_1 _))))
  obtain ⟨o, ho, hc'⟩ := he
  refine wpAny_bind (wpAny_isInstance (T := "StopIteration") (b := true) ⟨o, ho, hc'⟩ isSubtype_stop ?_)
  exact wpAny_pure (fun ht => ⟨rfl, I.turnedL (ch := [z, TO, i1, i2]) (fun b hb => hf b (by simp only [List.mem_cons, List.not_mem_nil, or_false] at hb ⊢; rcases hb with h | h | h | h <;> simp [h])) fun b u hb e => hk b u (fun q => hb (by simp [q])) (fun q => hb (by simp [q])) (fun q => hb (by simp [q])) (fun q => hb (by simp [q])) e⟩)
 self := fun _ _ _ _ _ st h => wpAny_pyIter_zip st.1 h
def Src.isV : Src → Nat → V → Prop
 | .L a, k, v => k = 0 ∧ v = .ref a
 | .T l _, k, v => k = 1 ∧ v = S l
 | .U a, k, v => k = 2 ∧ v = .ref a
def SeqV (k : Nat) (K : PySem.W.Frag) (H : Hp) (v : V) : Prop := (k = 0 ∧ ∃ a xs, v = .ref a ∧ SqL K H a xs) ∨ (k = 1 ∧ ∃ l, v = S l) ∨ (k = 2 ∧ ∃ a xs, v = .ref a ∧ SqT K H a xs)
theorem SeqV.mono {k : Nat} {K : PySem.W.Frag} {H H' : Hp} {v : V} (h : SeqV k K H v) (s : Same H H') : SeqV k K H' v := by
 rcases h with ⟨e, a, xs, rfl, hq⟩ | h | ⟨e, a, xs, rfl, hq⟩
 ·exact .inl ⟨e, a, xs, rfl, s.seq hq⟩
 ·exact .inr (.inl h)
 ·exact .inr (.inr ⟨e, a, xs, rfl, s.seqT hq⟩)
theorem SeqV.src {X : Cx} {pins : List (Addr × Obj)} {σ : St} {H : Hp} {s : Shared} (I : Inv X pins σ H s) {v : V} {u : Value} {k : Nat} (h : SeqV k X.K H v) (r : RelV v u) : ∃ sc : Src, sc.isV k v ∧ u = sc.val ∧ sc.ok s.heap ∧ sc.lt s.heap.objs.size := by
 rcases h with ⟨rfl, a, xs, rfl, hq⟩ | ⟨rfl, l, rfl⟩ | ⟨rfl, a, xs, rfl, hq⟩
 ·cases r
  obtain ⟨its, _, p, _⟩ := I.list hq
  obtain ⟨o, e, _⟩ := id p.isList
  exact ⟨.L a, ⟨rfl, rfl⟩, rfl, ⟨_, p.isList⟩, Heap.lt_size e⟩
 ·obtain ⟨t, rfl⟩ := r
  exact ⟨.T l t, ⟨rfl, rfl⟩, rfl, trivial, trivial⟩
 ·cases r
  obtain ⟨its, _, p, _⟩ := I.tuple hq
  obtain ⟨o, e, _⟩ := id p
  exact ⟨.U a, ⟨rfl, rfl⟩, rfl, ⟨_, p⟩, Heap.lt_size e⟩
theorem Src.mono {K : PySem.W.Frag} {H H' : Hp} {sc : Src} {xs : List V} (h : sc.vals K H xs) (s : Same H H') : sc.vals K H' xs := by
 cases sc with
 | L a => exact s.seq h
 | U a => exact s.seqT h
 | T l t => exact h
theorem Src.lt_mono {sc : Src} {m n : Nat} (h : sc.lt m) (k : m ≤ n) : sc.lt n := by
 cases sc with
 | L a => exact Nat.lt_of_lt_of_le h k
 | U a => exact Nat.lt_of_lt_of_le h k
 | T l t => trivial
theorem Src.not_fp {sc : Src} {m : Nat} {j b : Addr} (h : sc.lt m) (hb : m ≤ b) (hj : b ≠ j) : b ∉ sc.fp j := by
 cases sc with
 | L a =>
  intro z
  rcases List.mem_cons.mp z with z | z
  ·exact hj z
  ·have : b = a := by simpa using z
   subst this
   exact absurd (Nat.lt_of_lt_of_le (show b < m from h) hb) (Nat.lt_irrefl _)
 | U a =>
  intro z
  rcases List.mem_cons.mp z with z | z
  ·exact hj z
  ·have : b = a := by simpa using z
   subst this
   exact absurd (Nat.lt_of_lt_of_le (show b < m from h) hb) (Nat.lt_irrefl _)
 | T l t => intro z; exact hj (by simpa [Src.fp] using z)
theorem seq_vals {K : PySem.W.Frag} {H : Hp} {d : Dt} {ds : List Dt} {v : V} (h : sqM d = .ok ds) (r : Rep K H d v) : ∃ k, SeqV k K H v ∧ ∀ sc : Src, sc.isV k v → ∃ xs, sc.vals K H xs ∧ Reps K H ds xs := by
 cases d with
 | lst l =>
  cases h
  obtain ⟨a, xs, rfl, h1, h2⟩ := repL r
  refine ⟨0, .inl ⟨rfl, a, xs, rfl, h1⟩, fun sc hs => ?_⟩
  cases sc with
  | L b => cases (show V.ref a = .ref b from hs.2); exact ⟨xs, h1, h2⟩
  | T m t => exact nomatch hs.1
  | U b => exact nomatch hs.1
 | str l =>
  cases h
  have e : v = S l := by simpa only [Rep] using r
  subst e
  refine ⟨1, .inr (.inl ⟨rfl, l, rfl⟩), fun sc hs => ?_⟩
  cases sc with
  | L b => exact nomatch hs.1
  | U b => exact nomatch hs.1
  | T m t =>
   have := S_inj (show S l = S m from hs.2)
   subst this
   exact ⟨sgs l, rfl, reps_sgs l⟩
 | _ => cases h
def zA2 (hp : Heap) (s1 s2 : Src) : Heap := ((hp.push s1.obj).push s2.obj).push { cls := .type "tuple", data := .seq #[.ref (hp).objs.size, .ref ((hp.push s1.obj)).objs.size] }
def zB2 (hp : Heap) (s1 s2 : Src) : Heap := (zA2 hp s1 s2).push { cls := .type "tuple", data := .seq #[.none, .none] }
def zC2 (hp : Heap) (s1 s2 : Src) : Heap := (zB2 hp s1 s2).push { cls := .type "zip", data := .fields #[.none, .bool false, .bool false, .ref (((hp.push s1.obj).push s2.obj)).objs.size, .ref (zA2 hp s1 s2).objs.size] }
theorem mz2 (s1 s2 : Src) : Meets (Builtin.«zip.__new__» ⟨[.type "zip", s1.val, s2.val], []⟩) (fun _ R s => s1.ok s.heap ∧ s2.ok s.heap ∧ R (.ok (.ret (.ref (zB2 s.heap s1 s2).objs.size))) { s with heap := zC2 s.heap s1 s2 }) :=
 .of_wp fun prog w A R s h => by
  obtain ⟨hp, g, d, tk, os⟩ := s
  obtain ⟨o1, o2, h⟩ := h
  have hsub := sub_zip
  have hI1 : ∀ {A : Around} {E : Value → Shared → Prop} {Q : Value → Shared → Prop}, Q (.ref (hp).objs.size) ⟨(hp.push s1.obj), g, d, tk, os⟩ → wpAny (model prog w) A (pyIter s1.val) Q E ⟨hp, g, d, tk, os⟩ := fun q => Src.iter (s := ⟨hp, g, d, tk, os⟩) o1 q
  have hI2 : ∀ {A : Around} {E : Value → Shared → Prop} {Q : Value → Shared → Prop}, Q (.ref ((hp.push s1.obj)).objs.size) ⟨((hp.push s1.obj).push s2.obj), g, d, tk, os⟩ → wpAny (model prog w) A (pyIter s2.val) Q E ⟨(hp.push s1.obj), g, d, tk, os⟩ := fun q => Src.iter (s := ⟨(hp.push s1.obj), g, d, tk, os⟩) (Src.ok_push o2) q
  wp_walk using hI1, hI2
  exact ⟨_, rfl, h⟩
theorem len_z2 (hp : Heap) (s1 s2 : Src) : (zA2 hp s1 s2).objs.size = hp.objs.size + 3 ∧ (zB2 hp s1 s2).objs.size = hp.objs.size + 4 ∧ ((hp.push s1.obj)).objs.size = hp.objs.size + 1 ∧ (((hp.push s1.obj).push s2.obj)).objs.size = hp.objs.size + 2 := by
 simp [zA2, zB2, Heap.size_push]
theorem pi_zip2 {X : Cx} {tl : List Expr} {kk : Nat} {tpos p pos : Pos} {a b : Expr} {ta : TA} (hg : Gl X "zip") (hm : X.mg "zip" = none) (ha : PA X [a, b] ta) (hs : starEach [a, b] X.env = (false, eval a X.env) :: starEach [b] X.env) (hs2 : (backTo pos (starEach [b] X.env)).any (·.1) = false) :
  PI X (.Tuple tl kk tpos) (.Call (.Name "zip" p) [a, b] [] pos) (fun σ H R => ta σ H fun vs H1 => ∃ v1 v2 k1 k2, vs = [v1, v2] ∧ SeqV k1 X.K H1 v1 ∧ SeqV k2 X.K H1 v2 ∧ ∀ s1 s2 : Src, s1.isV k1 v1 → s2.isV k2 v2 → R (Itz2 X.K s1 s2) H1) := by
 intro pins s σ H R I h
 refine Call_ (ld_blt I hg hm boot_zip (PyProof.Rows.callWith_type1 (thn (ha pos pins s σ H _ I h) fun us s' ⟨vs, H1, I1, r1, q1⟩ => ?_) hs hs2))
 obtain ⟨v1, v2, k1, k2, e, w1, w2, q⟩ := q1
 subst e
 obtain ⟨u1, u2, rfl, r1, r2⟩ : ∃ u1 u2, us = [u1, u2] ∧ RelV v1 u1 ∧ RelV v2 u2 := by
  cases r1 with | cons g1 r2 => cases r2 with | cons g2 r3 => cases r3; exact ⟨_, _, rfl, g1, g2⟩
 obtain ⟨s1, iv1, rfl, ok1, lt1⟩ := w1.src I1 r1
 obtain ⟨s2, iv2, rfl, ok2, lt2⟩ := w2.src I1 r2
 refine callType_new F.called_zip (by decide) (F.typeCall_zip_2 _ _) (F.newCall_zip_2 _ _) (fun obj => F.args_object_init_3 obj _ _) F.entry_zip_new (mz2 s1 s2) ⟨ok1, ok2, ?_⟩
 obtain ⟨zA, zB, z1, z2⟩ := len_z2 s'.heap s1 s2
 have gz : (zC2 s'.heap s1 s2).get? (zB2 s'.heap s1 s2).objs.size = some _ := Heap.get?_push_size _ rfl
 have gO : (zC2 s'.heap s1 s2).get? (zA2 s'.heap s1 s2).objs.size = some _ := Heap.get?_push_of_some _ (Heap.get?_push_size _ rfl)
 have gI : (zC2 s'.heap s1 s2).get? (((s'.heap.push s1.obj).push s2.obj)).objs.size = some _ := Heap.get?_push_of_some _ (Heap.get?_push_of_some _ (Heap.get?_push_size _ rfl))
 have g1 : (zC2 s'.heap s1 s2).get? (s'.heap).objs.size = some s1.obj := (Heap.get?_push_of_some _ (Heap.get?_push_of_some _ (Heap.get?_push_of_some _ (Heap.get?_push_of_some _ (Heap.get?_push_size _ (by cases s1 <;> rfl))))))
 have g2 : (zC2 s'.heap s1 s2).get? ((s'.heap.push s1.obj)).objs.size = some s2.obj := (Heap.get?_push_of_some _ (Heap.get?_push_of_some _ (Heap.get?_push_of_some _ (Heap.get?_push_size _ (by cases s2 <;> rfl)))))
 have kk' : ∀ c o, s'.heap.get? c = some o → (zC2 s'.heap s1 s2).get? c = some o := fun c o x => (Heap.get?_push_of_some _ (Heap.get?_push_of_some _ (Heap.get?_push_of_some _ (Heap.get?_push_of_some _ (Heap.get?_push_of_some _ x)))))
 show _ ∧ _
 rw [zB, zA, z2] at gz
 rw [zA] at gO
 rw [z2, z1] at gI
 rw [z1] at g2
 rw [zB]
 refine ⟨⟨_, gz, rfl⟩, fun _ => wpAny_pyIter_zip gz fun _ => ?_⟩
 have L : ZA2 (s'.heap.objs.size + 4) (s'.heap.objs.size + 2) (s'.heap.objs.size + 3) (s'.heap.objs.size) (s'.heap.objs.size + 1) (s1.fp (s'.heap.objs.size)) (s2.fp (s'.heap.objs.size + 1)) := by
  have ne : ∀ i j : Nat, i ≠ j → s'.heap.objs.size + i ≠ s'.heap.objs.size + j := fun i j h z => h (Nat.add_left_cancel z)
  constructor
  all_goals first | exact ne _ _ (by decide) | exact ne 0 _ (by decide) | exact ne _ 0 (by decide) | exact Src.not_fp lt1 (Nat.le_add_right _ _) (by first | exact ne _ _ (by decide) | exact ne 0 _ (by decide) | exact ne _ 0 (by decide)) | exact Src.not_fp lt1 (Nat.le_refl _) (ne 0 _ (by decide)) | exact Src.not_fp lt2 (Nat.le_add_right _ _) (by first | exact ne _ _ (by decide) | exact ne 0 _ (by decide) | exact ne _ 0 (by decide)) | exact Src.not_fp lt2 (Nat.le_refl _) (ne 0 _ (by decide))
 refine ⟨s'.heap.objs.size + 4, [s'.heap.objs.size + 4, s'.heap.objs.size + 2, s'.heap.objs.size + 3, s'.heap.objs.size, s'.heap.objs.size + 1], _, _, H1, rfl, I1.kept (t' := s'.toks) kk', turn_z2 (s1 := s1) (s2 := s2) L (Src.lt_mono lt1 (by first | exact Nat.le_refl _ | exact Nat.le_add_right _ _)) (Src.lt_mono lt2 (by first | exact Nat.le_refl _ | exact Nat.le_add_right _ _)), ⟨gz, gI, ⟨_, _, gO⟩, Src.it_new g1, Src.it_new g2⟩, fun b hb => ?_, q s1 s2 iv1 iv2⟩
 have hb' : s'.heap.objs.size ≤ b := by
  simp only [List.mem_cons, List.not_mem_nil, or_false] at hb
  rcases hb with h | h | h | h | h <;> (rw [h]; first | exact Nat.le_refl _ | exact Nat.le_add_right _ _)
 exact I1.fpOk hb' (I1.hok.fresh hb')
theorem sq_ex {d : Dt} {c : Nat} (h : sqM d = .ex c) : False := by cases d <;> cases h
theorem itd_z2 {K : PySem.W.Frag} {A : List Addr} {s1 s2 : Src} {d1 d2 : List Dt} {xs1 xs2 : List V} {H1 : Hp} (h1 : s1.vals K (hid H1 A) xs1) (r1 : Reps K (hid H1 A) d1 xs1) (z1 : sms d1) (l1 : d1.length ≤ 10000) (h2 : s2.vals K (hid H1 A) xs2) (r2 : Reps K (hid H1 A) d2 xs2) (z2 : sms d2) (l2 : d2.length ≤ 10000) : ItD K A (Itz2 K s1 s2) (zipD d1 d2) H1 := by
 have e1 := r1.length
 have e2 := r2.length
 have hz : (zipD d1 d2).length = min (d1.length) d2.length := by simp [zipD]
 refine ⟨fun i H hi s => ⟨xs1, xs2, Src.mono h1 s, Src.mono h2 s, by omega⟩, fun H s => ⟨xs1, xs2, Src.mono h1 s, Src.mono h2 s, by omega⟩, fun i H x H' A' hi L s y => ?_, sms_of fun d hd => ?_, by omega⟩
 ·obtain ⟨T, x1, x2, rfl, hT, rfl, y1, y2⟩ := y
  have g1 := y1 xs1 (Src.mono h1 (s.trans hid_same))
  obtain ⟨c1, k1, q1⟩ := r1.get g1
  have g2 := y2 xs2 (Src.mono h2 (s.trans hid_same))
  obtain ⟨c2, k2, q2⟩ := r2.get g2
  have s2 : Same H (upd H T (.tup [x1, x2])) := .upd hT
  refine ⟨s2, .tup [c1, c2], ?_, rep_tup (hid_new L hT) (.cons ((q1.mono s).mono (s2.hid _)) (.cons ((q2.mono s).mono (s2.hid _)) .nil))⟩
  simp [zipD, List.getElem?_zip_eq_some, k1, k2]
 ·obtain ⟨p, hp, rfl⟩ := List.mem_map.mp hd
  have m1 := List.of_mem_zip hp
  exact ⟨by show 2 ≤ 10000; decide, sms_mem z1 m1.1, sms_mem z2 m1.2, trivial⟩
theorem sq_small {d : Dt} {ds : List Dt} (h : sqM d = .ok ds) (z : sm d) : sms ds ∧ ds.length ≤ 10000 := by
 cases d with
 | lst l => cases h; exact ⟨z.2, z.1⟩
 | str l => cases h; exact ⟨sms_sgD l, by rw [sgD, List.length_map]; exact z⟩
 | _ => cases h
theorem iv_zip2 {X : Cx} {cls : Nat → Addr} {E : XK} {tl : List Expr} {kk : Nat} {tpos p pos : Pos} {a b : Expr} {fs : Rho → M (List Dt)} (hg : Gl X "zip") (hm : X.mg "zip" = none) (ha : Av X cls E [a, b] fs) (hs : starEach [a, b] X.env = (false, eval a X.env) :: starEach [b] X.env := by rfl) (hs2 : (backTo pos (starEach [b] X.env)).any (·.1) = false := by rfl) :
  Iv X cls E (.Tuple tl kk tpos) (.Call (.Name "zip" p) [a, b] [] pos) (iBy zip2N fs) := (pi_zip2 hg hm ha hs hs2).imp fun σ H R ⟨O, A, ρ, F, q⟩ => by
 refine ⟨O, A, ρ, F, Rg.bind q fun ds hds q1 => ?_⟩
 clear hds
 intro vs H1 s1 r1 z1
 unfold zip2N at q1
 split at q1
 ·rename_i e1 e2
  obtain ⟨v1, v2, rfl, t1, t2⟩ := reps2 r1
  cases g1 : sqM e1 with
  | ex c => exact (sq_ex g1).elim
  | bad => rw [g1] at q1; exact (show False from q1).elim
  | ok d1 =>
   rw [g1] at q1
   simp only [bd_ok] at q1
   cases g2 : sqM e2 with
   | ex c => exact (sq_ex g2).elim
   | bad => rw [g2] at q1; exact (show False from q1).elim
   | ok d2 =>
    rw [g2] at q1
    simp only [bd_ok] at q1
    obtain ⟨k1, a1, b1⟩ := seq_vals g1 t1
    obtain ⟨sm1, ln1⟩ := sq_small g1 z1.1
    have aa1 : SeqV k1 X.K H1 v1 := a1.mono hid_same
    obtain ⟨k2, a2, b2⟩ := seq_vals g2 t2
    obtain ⟨sm2, ln2⟩ := sq_small g2 z1.2.1
    have aa2 : SeqV k2 X.K H1 v2 := a2.mono hid_same
    refine ⟨v1, v2, k1, k2, rfl, aa1, aa2, fun c1 c2 i1 i2 => ?_⟩
    obtain ⟨xs1, m1, n1⟩ := b1 c1 i1
    obtain ⟨xs2, m2, n2⟩ := b2 c2 i2
    exact q1 _ H1 s1 (itd_z2 m1 n1 sm1 ln1 m2 n2 sm2 ln2)
 ·exact (show False from q1).elim
theorem enumD_get {ds : List Dt} {i : Nat} {d : Dt} (h : ds[i]? = some d) : (enumD ds)[i]? = some (.tup [.int (i : Nat), d]) := by
 have hi : i < ds.length := (List.getElem?_eq_some_iff.mp h).1
 unfold enumD
 rw [List.getElem?_zipWith, List.getElem?_range hi, h]
theorem enumD_len (ds : List Dt) : (enumD ds).length = ds.length := by simp [enumD]
theorem enumD_sms {ds : List Dt} (z : sms ds) : sms (enumD ds) := sms_of fun d hd => by
 obtain ⟨i, hi⟩ := List.getElem?_of_mem hd
 have hlt : i < ds.length := by
  have := (List.getElem?_eq_some_iff.mp hi).1
  rwa [enumD_len] at this
 have e := enumD_get (ds := ds) (i := i) (d := ds[i]) (by simp [hlt])
 rw [hi] at e
 cases e
 exact ⟨by show 2 ≤ 10000; decide, trivial, sms_mem z (List.getElem_mem hlt), trivial⟩
theorem iv_enum {X : Cx} {cls : Nat → Addr} {E : XK} {tl : List Expr} {kk : Nat} {tpos p pos : Pos} {a : Expr} {fs : Rho → M (List Dt)} (hg : Gl X "enumerate") (hm : X.mg "enumerate" = none) (ha : Av X cls E [a] fs) (hs : starEach [a] X.env = [(false, eval a X.env)] := by rfl) :
  Iv X cls E (.Tuple tl kk tpos) (.Call (.Name "enumerate" p) [a] [] pos) (iBy enumN fs) := by
 refine ((pi_enum hg hm ha hs).or (pi_enumS hg hm ha hs)).imp fun σ H R ⟨O, A, ρ, F, q⟩ => ?_
 unfold iBy at q
 cases hm' : fs ρ with
 | bad => rw [hm'] at q; exact (show False from q).elim
 | ex c => refine .inl ⟨O, A, ρ, F, ?_⟩; rw [hm'] at q ⊢; exact q
 | ok ds =>
  rw [hm'] at q
  simp only [bd_ok] at q
  unfold enumN at q
  split at q
  ·rename_i e
   cases e with
   | lst l =>
    refine .inl ⟨O, A, ρ, F, ?_⟩
    rw [hm']
    intro vs H1 s1 r1 z1
    obtain ⟨v, rfl, t⟩ := reps1 r1
    obtain ⟨p, xs, rfl, h1, h2⟩ := repL t
    have hl := h2.length
    refine ⟨p, xs, rfl, hid_same.seq h1, q _ H1 s1 ⟨fun i H hi s => ⟨xs, s.seq h1, by rw [enumD_len] at hi; omega⟩, fun H s => ⟨xs, s.seq h1, by rw [enumD_len]; exact hl⟩, fun i H x H' A' hi L s y => ?_, enumD_sms z1.1.2, by rw [enumD_len]; exact z1.1.1⟩⟩
    obtain ⟨T, w, rfl, hT, rfl, hw⟩ := y
    obtain ⟨d, hd, rd⟩ := h2.get (hw xs ((s.trans hid_same).seq h1))
    have s2 : Same H (upd H T (.tup [.int (i : Nat), w])) := .upd hT
    exact ⟨s2, _, enumD_get hd, rep_tup (hid_new L hT) (.cons rep_int (.cons ((rd.mono s).mono (s2.hid _)) .nil))⟩
   | str l =>
    refine .inr ⟨O, A, ρ, F, ?_⟩
    rw [hm']
    intro vs H1 s1 r1 z1
    obtain ⟨v, rfl, t⟩ := reps1 r1
    have hl : (sgD l).length = l.length := by simp [sgD]
    refine ⟨l, by rw [repS t], q _ H1 s1 ⟨fun i H hi s => by show i < l.length; rw [enumD_len] at hi; omega, fun H s => by show _ = l.length; rw [enumD_len]; exact hl, fun i H x H' A' hi L s y => ?_, enumD_sms (sms_sgD l), by rw [enumD_len, hl]; exact z1.1⟩⟩
    obtain ⟨T, c, rfl, hT, rfl, hc⟩ := y
    have s2 : Same H (upd H T (.tup [.int (i : Nat), S [c]])) := .upd hT
    exact ⟨s2, _, enumD_get (d := .str [c]) (by simp [sgD, hc]), rep_tup (hid_new L hT) (.cons rep_int (.cons rep_str .nil))⟩
   | _ => exact (show False from q).elim
  ·exact (show False from q).elim
theorem Cal.up {P : Program} {w : World} {K : PySem.W.Frag} {mg : Str → Option Value} {base : Heap} {CX : CXT} {j k : Nat} {x : Str} {ps : List Str} {sp : Sp} (C : Cal P w K mg base CX j x ps sp) (h : j ≤ k) : Cal P w K mg base CX k x ps sp := by
 obtain ⟨f, fd, h1, h2, h3, h4⟩ := C
 exact ⟨f, fd, h1.mono h, h2, h3, h4⟩
theorem dup_snoc {α : Type} [DecidableEq α] (l : List α) (k : α) : (l ++ [k]).eraseDups.length = if k ∈ l then l.eraseDups.length else l.eraseDups.length + 1 := by
 rw [List.eraseDups_append, List.length_append]
 by_cases h : k ∈ l
 ·have : [k].removeAll l = [] := by simp [List.removeAll, h]
  rw [if_pos h, this]
  rfl
 ·have : [k].removeAll l = [k] := by simp [List.removeAll, h]
  rw [if_neg h, this]
  rfl
theorem dup_le {α : Type} [DecidableEq α] : ∀ (n : Nat) (l : List α), l.length = n → l.eraseDups.length ≤ n
 | 0, l, h => by rw [List.length_eq_zero_iff.mp h]; exact Nat.le_refl _
 | n + 1, l, h => by
  have hne : l ≠ [] := fun e => by rw [e] at h; cases h
  have e := List.dropLast_concat_getLast hne
  have hl : l.dropLast.length = n := by rw [List.length_dropLast, h]; rfl
  have := dup_le n l.dropLast hl
  rw [← e, dup_snoc]
  split <;> omega
section
variable {prog : Program} {w : World} {A : Around} {E : Value → Shared → Prop} {s : Shared} {Kt : Type} [DecidableEq Kt] {knd : KeyKind prog w Kt}
abbrev setO (led : Bool) : Obj := { cls := .type "set", dict := none, data := .set #[] 0 (.fresh 0 0 led) }
end
def txt (l : List Nat) : Str := ⟨l.toArray⟩
theorem txt_inj (a b : List Nat) (h : txt a = txt b) : a = b := by
 injection h with h
 simpa using congrArg Array.toList h
theorem beq_same {α : Type} [DecidableEq α] (i : BEq α) [LawfulBEq α] : (instBEqOfDecidableEq : BEq α) = i := by
 cases i with
 | mk g =>
  have : (fun a b : α => decide (a = b)) = g := by
   funext a b
   have h : (g a b = true) ↔ a = b := @beq_iff_eq α ⟨g⟩ _ a b
   rw [Bool.eq_iff_iff, h, decide_eq_true_eq]
  exact congrArg BEq.mk this
def rowsAt (bad : List Addr) (items : Array Value) (rs : List (Int × Int)) (h : Heap) : Prop :=
 ∀ (i : Nat) (v : Value), items[i]? = some v → ∃ a its p, v = .ref a ∧ a ∉ bad ∧ rs[i]? = some p ∧ IsTup h a its ∧ IntsAre its.toList [p.1, p.2]
theorem rowsAt.keep {bad : List Addr} {items : Array Value} {rs : List (Int × Int)} {h h' : Heap} (x : rowsAt bad items rs h) (k : ∀ b o, b ∉ bad → h.get? b = some o → h'.get? b = some o) : rowsAt bad items rs h' := fun i v e => by
 obtain ⟨a, its, p, h1, h2, h3, ⟨o, h4, h5⟩, h6⟩ := x i v e
 exact ⟨a, its, p, h1, h2, h3, ⟨o, k a o h2 h4, h5⟩, h6⟩
section
variable {X : Cx} {cls : Nat → Addr} {E : XK} {a b e dE o : Expr} {f g : Rho → M Dt} {fs : Rho → M (List Dt)} {pos p kp : Pos}
theorem od_shl : OpD X cls E (binaryOp .LShift) oShl := by
 refine ⟨_, op_shl, fun A H Q d1 d2 x y L r1 r2 z1 z2 q => ?_⟩
 cases d1 with
 | int i =>
  cases d2 with
  | int j =>
   simp only [oShl] at q
   split at q
   ·rename_i h
    exact ⟨i, j, repI r1, repI r2, ⟨h.1, by omega, h.2.2⟩, q _ H (.refl _) rep_int trivial⟩
   ·exact (show False from q).elim
  | _ => exact (show False from q).elim
 | _ => exact (show False from q).elim
theorem ints_rep {K : PySem.W.Frag} {H : Hp} : ∀ {ds : List Dt} {ns : List Int} {xs : List V}, intsD ds = some ns → Reps K H ds xs → xs = ns.map V.int
 | [], ns, xs, h, r => by
  simp only [Reps] at r
  simp only [intsD, Option.some.injEq] at h
  subst r h
  rfl
 | d :: ds, ns, xs, h, r => by
  simp only [Reps] at r
  obtain ⟨x, t, rfl, r1, r2⟩ := r
  cases d with
  | int i =>
   simp only [intsD, Option.map_eq_some_iff] at h
   obtain ⟨cs, hc, rfl⟩ := h
   simp only [Rep] at r1
   rw [ints_rep hc r2, List.map_cons, r1]
  | _ => simp [intsD] at h
def iv (ns : List Int) (i : Nat) : Int := ns.getD i 0
theorem pre_take (ns : List Int) : ∀ k, k ≤ ns.length → preSum (iv ns) k = (ns.take k).sum
 | 0, _ => by simp [preSum]
 | k + 1, h => by
  have hk : k < ns.length := by omega
  simp only [preSum, pre_take ns k (by omega)]
  rw [List.take_add_one, List.sum_append]
  simp [iv, hk]
theorem sum_bound : ∀ (ns : List Int), (∀ n ∈ ns, -1000000 ≤ n ∧ n ≤ 1000000) → -(1000000 * (ns.length : Int)) ≤ ns.sum ∧ ns.sum ≤ 1000000 * (ns.length : Int)
 | [], _ => by simp
 | n :: ns, h => by
  have ih := sum_bound ns fun x hx => h x (List.mem_cons_of_mem _ hx)
  have hn := h n (List.mem_cons_self ..)
  rw [List.sum_cons, List.length_cons]
  push_cast
  omega
theorem cd_sum (hc : X.calm = true) : CaD X cls E (.builtin "sum") bSum := by
 refine ⟨fun xs H Q => ∃ (p : Addr) (ns : List Int), xs = [.ref p] ∧ SqL X.K H p (ns.map V.int) ∧ ns.length ≤ 1000 ∧ (∀ n ∈ ns, -1000000 ≤ n ∧ n ≤ 1000000) ∧ Q (.int ns.sum) H, ?_, fun A H Q ds vs L r z q => ?_⟩
 ·intro pins s σ H xs us Q I r ⟨p, ns, e, hq, hl, hb, q⟩
  subst e
  obtain ⟨u, rfl, ru⟩ := r.one
  cases ru
  obtain ⟨its, rv, pl, hz⟩ := I.list hq
  have hlt : p < s.heap.objs.size := by obtain ⟨o, n, e, _⟩ := pl; exact Heap.lt_size e
  have hlen : its.length = ns.length := by have := rv.length; simpa using this.symm
  refine call_sum_walk (wpAny_pyIter_list pl.isList ⟨_, _, _, _, _, _, iv ns, rfl, Walks.list (A := X.A.in1) (I.ok.hd hc) s.heap.objs.size p (Nat.ne_of_lt hlt) its.toArray, ⟨⟨_, Heap.get?_push_size _ rfl, rfl, rfl⟩, pl.isList.push _⟩, ?_, fun i v hv => ?_, fun j hj => ?_, fun h' tk t' hk => ?_⟩)
  ·intro b hb'
   have hb2 : b = s.heap.objs.size ∨ b = p := by simpa using hb'
   rw [Heap.size_push]
   rcases hb2 with rfl | rfl
   ·exact Nat.lt_succ_self _
   ·exact Nat.lt_succ_of_lt hlt
  ·have hv' : its[i]? = some v := by simpa using hv
   have hi : i < its.length := (List.getElem?_eq_some_iff.mp hv').1
   have hi2 : i < ns.length := by omega
   obtain ⟨u, hu, ru⟩ := rv.get (i := i) (x := .int ns[i]) (by simp [hi2])
   rw [hv'] at hu
   cases hu
   obtain ⟨t, rfl⟩ := ru
   exact ⟨t, by simp [iv, hi2]⟩
  ·have hj' : j < ns.length := by simp at hj; omega
   have h1 := hb (iv ns j) (by simp [iv, hj'])
   rw [pre_take ns (j + 1) (by omega)]
   have h2 := sum_bound (ns.take (j + 1)) fun n hn => hb n (List.mem_of_mem_take hn)
   rw [List.length_take] at h2
   unfold InLong
   omega
  ·have e : preSum (iv ns) its.toArray.size = ns.sum := by
    rw [show its.toArray.size = ns.length by simp [hlen], pre_take ns _ (Nat.le_refl _), List.take_length]
   rw [e]
   exact (fun ht => ⟨.int ns.sum, H, I.kept (t' := tk) (fun b o e => hk b o (by simpa using Nat.ne_of_lt (Heap.lt_size e)) (Heap.get?_push_of_some _ e)), ⟨t', rfl⟩, q⟩)
 ·unfold bSum at q
  split at q
  ·rename_i l
   obtain ⟨v, rfl, rv⟩ := reps1 r
   obtain ⟨p, xs, rfl, h1, h2⟩ := repL rv
   unfold sumR at q
   split at q
   ·rename_i ns hns
    split at q
    ·rename_i h
     rw [ints_rep hns h2] at h1
     refine ⟨p, ns, rfl, hid_same.seq h1, h.1, fun n hn => ?_, q _ H (.refl _) rep_int trivial⟩
     have := List.all_eq_true.mp h.2 n hn
     simp at this
     exact this
    ·exact (show False from q).elim
   ·exact (show False from q).elim
  ·exact (show False from q).elim
end
def gtB (ns : List Int) (i j : Nat) : Bool := decide (iv ns i > iv ns j)
section
variable {prog : Program} {w : World} {A : Around} {R : Result → Shared → Prop} {I S : Addr} {fp wr : List Addr} {St : Nat → Heap → Prop} {items : Array Value} {ns : List Int}
theorem ints_gt {s : Shared} {i j : Nat} {v u : Value} {Q : Value → Shared → Prop} {E : Value → Shared → Prop} (hi : ∀ (i : Nat) (v : Value), items[i]? = some v → ∃ t, v = .int (iv ns i) t) (hv : items[i]? = some v) (hw : items[j]? = some u) (q : Q (.bool (gtB ns i j)) s) : wpAny (model prog w) A (richCompare .Gt v u) Q E s := by
 obtain ⟨t1, rfl⟩ := hi i v hv
 obtain ⟨t2, rfl⟩ := hi j u hw
 exact (PyProof.Rows.gt_int q : wpAny (model prog w) A (compareOp .Gt (.int _ t1) (.int _ t2)) Q E s)
theorem max_loop (kw : List (Str × Value)) (hi : ∀ (i : Nat) (v : Value), items[i]? = some v → ∃ t, v = .int (iv ns i) t) (W : Walks prog w A.in1 I fp wr items.size (fun i v => items[i]? = some v) St) (hSf : S ∉ fp) :
  ∀ (k j : Nat) (s : Shared) (vb : Value) (c : Nat), items.size - (j + 1) = k → j + 1 ≤ items.size → St (j + 1) s.heap → items[argBest (gtB ns) j]? = some vb →
  s.heap.get? S = some { cls := .type "list", dict := none, data := .seq #[vb, vb] c, slots := #[] } →
  (∀ v h' tk, items[argBest (gtB ns) (items.size - 1)]? = some v → (∀ b o, b ∉ S :: wr → s.heap.get? b = some o → h'.get? b = some o) → R (.ok (.ret v)) { s with heap := h', toks := tk }) →
  codeAny (model prog w) A (.builtin "max.loop" ⟨[.ref I, .none, .ref S], kw⟩) R s := by
 have hSw : S ∉ wr := fun h => hSf (W.sub _ h)
 have hwr : ∀ {b : Addr}, b ∉ S :: wr → b ∉ wr := fun h z => h (List.mem_cons_of_mem _ z)
 have hbS : ∀ {b : Addr}, b ∉ S :: wr → b ≠ S := fun h z => h (z ▸ List.mem_cons_self ..)
 have hname : (toString "max" ++ toString ".loop" : String) = "max.loop" := by decide
 intro k
 induction k with
 | zero =>
  intro j s vb c hk hj hst hb hS hR
  have hin : j + 1 = items.size := by omega
  refine codeAny_builtin PySem.F.entry_max_loop ?_
  rw [Around.under_plainId PySem.F.plain_max_loop _]
  show wpAny _ A.in1 (seqItems? (.ref S) >>= _) _ _ s
  refine wpAny_bind (wpAny_seqItems hS rfl ?_)
  show wpAny _ A.in1 (tryCatch (pyNext (.ref I)) _ >>= _) _ _ s
  refine wpAny_bind (wpAny_tryCatch (W.done s _ _ (hin ▸ hst) fun h' tk hk' => ?_))
  show wpAny _ A.in1 (updateSeq S (fun _ => #[]) >>= _) _ _ _
  refine wpAny_bind ?_
  refine wpAny_updateSeq (hk' S _ hSw hS) rfl (hz := ?hz) (wpAny_bind (wpAny_letGo (wpAny_pure ?_)))
  case hz => simp; decide
  refine hR vb _ tk (by rw [← hin]; exact hb) fun b o h e => (Heap.get?_update_other _ _ (Ne.symm (hbS h))).trans (hk' b o (hwr h) e)
 | succ k ih =>
  intro j s vb c hk hj hst hb hS hR
  have hlt : j + 1 < items.size := by omega
  refine codeAny_builtin PySem.F.entry_max_loop ?_
  rw [Around.under_plainId PySem.F.plain_max_loop _]
  show wpAny _ A.in1 (seqItems? (.ref S) >>= _) _ _ s
  refine wpAny_bind (wpAny_seqItems hS rfl ?_)
  show wpAny _ A.in1 (tryCatch (pyNext (.ref I)) _ >>= _) _ _ s
  refine wpAny_bind (wpAny_tryCatch (W.item (j + 1) s _ _ hlt hst fun v h' tk hP hst' hk' => ?_))
  have hS' := hk' S _ hSw hS
  show wpAny _ A.in1 (tryCatch (holding [v, v] (richCompare .Gt v vb >>= _)) _ >>= _) _ _ _
  refine wpAny_bind (wpAny_tryCatch (wpAny_holding (wpAny_bind (ints_gt (i := j + 1) (j := argBest (gtB ns) j) hi hP hb ?_))))
  refine wpAny_bind (wpAny_holding (wpAny_truthy_bool ?_))
  refine wpAny_bind (wpAny_letGo (wpAny_pure ?_))
  cases hbt : gtB ns (j + 1) (argBest (gtB ns) j) with
  | true =>
   simp only [if_true]
   refine wpAny_bind ?_
   refine wpAny_updateSeq hS' rfl (hz := ?hz) (wpAny_bind (wpAny_letGo ?_))
   case hz => simp; decide
   rw [hname]
   refine wpAny_pure ⟨plainId_quiet PySem.F.plain_max_loop _, ih (j + 1) _ v _ (by omega) hlt (W.frame _ _ _ hst' fun b hbf o e => ?_) (by simp only [argBest, hbt, if_true]; exact hP) (Heap.get?_update_self _ hS' rfl) fun v' h'' tk'' hP' hk'' => ?_⟩
   ·exact (Heap.get?_update_other _ _ (fun h : S = b => hSf (by rw [h]; exact hbf))).trans e
   ·exact hR v' h'' tk'' hP' fun b o h e => hk'' b o h ((Heap.get?_update_other _ _ (Ne.symm (hbS h))).trans (hk' b o (hwr h) e))
  | false =>
   simp only [Bool.false_eq_true, if_false]
   refine wpAny_bind (wpAny_letGo ?_)
   rw [hname]
   refine wpAny_pure ⟨plainId_quiet PySem.F.plain_max_loop _, ih (j + 1) _ vb c (by omega) hlt hst' (by simp only [argBest, hbt, Bool.false_eq_true, if_false]; exact hb) hS' fun v' h'' tk'' hP' hk'' => ?_⟩
   exact hR v' h'' tk'' hP' fun b o h e => hk'' b o h (hk' b o (hwr h) e)
theorem max_first (kw : List (Str × Value)) (hi : ∀ (i : Nat) (v : Value), items[i]? = some v → ∃ t, v = .int (iv ns i) t) (W : Walks prog w A.in1 I fp wr items.size (fun i v => items[i]? = some v) St) (hSf : S ∉ fp) (hn : 0 < items.size) {s : Shared} {c : Nat} (hst : St 0 s.heap)
  (hS : s.heap.get? S = some { cls := .type "list", dict := none, data := .seq #[] c, slots := #[] })
  (hR : ∀ v h' tk, items[argBest (gtB ns) (items.size - 1)]? = some v → (∀ b o, b ∉ S :: wr → s.heap.get? b = some o → h'.get? b = some o) → R (.ok (.ret v)) { s with heap := h', toks := tk }) :
  codeAny (model prog w) A (.builtin "max.loop" ⟨[.ref I, .none, .ref S], kw⟩) R s := by
 have hSw : S ∉ wr := fun h => hSf (W.sub _ h)
 have hwr : ∀ {b : Addr}, b ∉ S :: wr → b ∉ wr := fun h z => h (List.mem_cons_of_mem _ z)
 have hbS : ∀ {b : Addr}, b ∉ S :: wr → b ≠ S := fun h z => h (z ▸ List.mem_cons_self ..)
 have hname : (toString "max" ++ toString ".loop" : String) = "max.loop" := by decide
 refine codeAny_builtin PySem.F.entry_max_loop ?_
 rw [Around.under_plainId PySem.F.plain_max_loop _]
 show wpAny _ A.in1 (seqItems? (.ref S) >>= _) _ _ s
 refine wpAny_bind (wpAny_seqItems hS rfl ?_)
 show wpAny _ A.in1 (tryCatch (pyNext (.ref I)) _ >>= _) _ _ s
 refine wpAny_bind (wpAny_tryCatch (W.item 0 s _ _ hn hst fun v h' tk hP hst' hk' => ?_))
 have hS' := hk' S _ hSw hS
 show wpAny _ A.in1 (updateSeq S (fun _ => #[v, v]) >>= _) _ _ _
 refine wpAny_bind ?_
 refine wpAny_updateSeq hS' rfl (hz := ?hz) ?_
 case hz => simp
 rw [hname]
 refine wpAny_pure ⟨plainId_quiet PySem.F.plain_max_loop _, max_loop kw hi W hSf _ 0 _ v _ rfl hn (W.frame _ _ _ hst' fun b hbf o e => ?_) hP (Heap.get?_update_self _ hS' rfl) fun v' h'' tk'' hP' hk'' => ?_⟩
 ·exact (Heap.get?_update_other _ _ (fun h : S = b => hSf (by rw [h]; exact hbf))).trans e
 ·exact hR v' h'' tk'' hP' fun b o h e => hk'' b o h ((Heap.get?_update_other _ _ (Ne.symm (hbS h))).trans (hk' b o (hwr h) e))
end
section
variable {prog : Program} {w : World} {A : Around} {E : Value → Shared → Prop} {s : Shared} {items : Array Value} {ns : List Int} {p : Addr}
theorem dflM_args (a d : Value) : argsOk "max" ⟨[a], [(Str.ofString "default", d)]⟩ := by unfold argsOk; kernel_rfl
theorem dflM_bind (d : Value) : Builtin.Builtins.bindParams "max" ["key", "default"] 0 ⟨[], [(Str.ofString "default", d)]⟩ = pure [none, some d] := by rfl
theorem call_maxD {Q : Value → Shared → Prop} {d : Value} (hh : A.handled = none) (hl : s.heap.IsList p items) (hn : 0 < items.size) (hi : ∀ (i : Nat) (v : Value), items[i]? = some v → ∃ t, v = .int (iv ns i) t)
  (hQ : ∀ v h' tk, items[argBest (gtB ns) (items.size - 1)]? = some v → (∀ b o, s.heap.get? b = some o → h'.get? b = some o) → Q v { s with heap := h', toks := tk }) :
  wpAny (model prog w) A (call (.builtin "max") [.ref p] [(Str.ofString "default", d)]) Q E s := by
 have hname : (toString "max" ++ toString ".loop" : String) = "max.loop" := by decide
 have hp : p < s.heap.objs.size := by obtain ⟨o, e, _⟩ := hl; exact Heap.lt_size e
 refine kmk_tree PySem.F.kind_max PySem.F.plain_max PySem.F.entry_max (dflM_args _ _) ?_
 show wpAny _ A.in1 (Builtin.Builtins.bindParams "max" ["key", "default"] 0 ⟨[], [(Str.ofString "default", d)]⟩ >>= _) _ _ s
 refine wpAny_bind (wpAny_of_eq (dflM_bind d) ?_)
 refine wpAny_bind (wpAny_pure ?_)
 refine wpAny_bind (wpAny_pyIter_list hl ?_)
 refine wpAny_bind (wpAny_newObj_type ?_)
 rw [hname]
 have hz : (s.heap.push { cls := .type "list_iterator", data := .fields #[.ref p, .int 0 0] }).objs.size = s.heap.objs.size + 1 := Heap.size_push _ _
 refine wpAny_pure ⟨plainId_quiet PySem.F.plain_max_loop _, max_first (ns := ns) _ hi (Walks.list (by simp [hh]) s.heap.objs.size p (Nat.ne_of_lt hp) items) (by rw [hz]; simp only [List.mem_cons, List.not_mem_nil, or_false, not_or]; exact ⟨(Nat.ne_of_lt (Nat.lt_succ_self _)).symm, (Nat.ne_of_lt (Nat.lt_succ_of_lt hp)).symm⟩) hn
  ⟨⟨_, Heap.get?_push_of_some _ (Heap.get?_push_size _ rfl), rfl, rfl⟩, (hl.push _).push _⟩ (Heap.get?_push_size _ rfl) fun v h' tk hv hk => hQ v h' tk hv fun b o e => ?_⟩
 have ha := Heap.lt_size e
 refine hk b o ?_ (Heap.get?_push_of_some _ (Heap.get?_push_of_some _ e))
 rw [hz]
 simp only [List.mem_cons, List.not_mem_nil, or_false, not_or]
 exact ⟨Nat.ne_of_lt (Nat.lt_succ_of_lt ha), Nat.ne_of_lt ha⟩
end
theorem bestM (ns : List Int) : ∀ k, k < ns.length → argBest (gtB ns) k < ns.length ∧ iv ns (argBest (gtB ns) k) = ((ns.drop 1).take k).foldl gtI (iv ns 0)
 | 0, h => ⟨h, by simp [argBest]⟩
 | k + 1, h => by
  obtain ⟨h1, h2⟩ := bestM ns k (by omega)
  have e : (ns.drop 1).take (k + 1) = (ns.drop 1).take k ++ [iv ns (k + 1)] := by
   rw [List.take_add_one, List.getElem?_drop, Nat.add_comm 1 k]
   simp [h, iv]
  rw [e, List.foldl_append, List.foldl_cons, List.foldl_nil, ← h2]
  simp only [argBest]
  cases hb : gtB ns (k + 1) (argBest (gtB ns) k) with
  | true =>
   have hb' : iv ns (k + 1) > iv ns (argBest (gtB ns) k) := of_decide_eq_true hb
   refine ⟨h, ?_⟩
   unfold gtI
   rw [if_pos hb']
   rfl
  | false =>
   have hb' : ¬ iv ns (k + 1) > iv ns (argBest (gtB ns) k) := of_decide_eq_false hb
   refine ⟨h1, ?_⟩
   unfold gtI
   rw [if_neg hb']
   rfl
theorem ints_at {ns : List Int} {its : List Value} (rv : Vals (ns.map V.int) its) : ∀ (i : Nat) (v : Value), its.toArray[i]? = some v → ∃ t, v = .int (iv ns i) t := by
 intro i v hv
 have hlen : its.length = ns.length := by have := rv.length; simpa using this.symm
 have hv' : its[i]? = some v := by simpa using hv
 have hi : i < its.length := (List.getElem?_eq_some_iff.mp hv').1
 have hi2 : i < ns.length := by omega
 obtain ⟨u, hu, ru⟩ := rv.get (i := i) (x := .int ns[i]) (by simp [hi2])
 rw [hv'] at hu
 cases hu
 obtain ⟨t, rfl⟩ := ru
 exact ⟨t, by simp [iv, hi2]⟩
section
variable {X : Cx} {cls : Nat → Addr} {E : XK} {e dE : Expr} {f g : Rho → M Dt} {pos p kp : Pos}
theorem ev_maxD (hc : X.calm = true) (hg : Gl X "max") (hm : X.mg "max" = none) (ha : Ev X cls E e f) (hst : isStar e = false) (hd : Ev X cls E dE g) :
  Ev X cls E (.Call (.Name "max" p) [e] [⟨some "default", dE, kp⟩] pos) (p2 maxDM f g) := by
 intro pins s σ H Q I ⟨O, A, ρ, F, q⟩
 refine wpAny_Call_Name_kw (ld_blt I hg hm boot_max ?_ (by decide) (by decide))
 refine callWith_kw (e := e) (rest := []) ?_ (by rw [starEach_cons hst]; rfl) (by rw [starEach_cons hst]; rfl) rfl rfl
 rw [starEach_cons hst]
 refine Calls.spliced_cons (x := eval e X.env) (thn (ha pins s σ H (fun x H1 => ∃ d, Same H H1 ∧ Rep X.K (hid H1 A) d x ∧ sm d ∧ Res X.K cls A E ((g ρ).bd (maxDM d)) H1 Q) I ⟨O, A, ρ, F, Rg.bind q fun d _ q1 => ?_⟩) fun u s1 ⟨x, H1, I1, r1, d, sm1, rp, zd, q1⟩ => ?_)
 ·intro x H1 s1 r1 z1
  exact ⟨d, s1, r1, z1, Res.mono q1 s1⟩
 refine Calls.spliced_nil (kws_cons (thn (hd pins s1 σ H1 (fun x H2 => ∃ d2, Same H1 H2 ∧ Res X.K cls A E (maxDM d d2) H2 Q) I1 ⟨O, A, ρ, F.mono sm1, Rg.bind q1 fun d2 _ q2 => ?_⟩) fun u2 s2 ⟨x2, H2, I2, r2, d2, sm2, q2⟩ => kws_nil ?_))
 ·intro x H2 s2 r2 z2
  exact ⟨d2, s2, Res.mono q2 s2⟩
 show wpAny _ _ (call (.builtin "max") [u] [(Str.ofString "default", u2)]) _ _ _
 cases d with
 | lst ds =>
  obtain ⟨pl, xs, rfl, h1, h2⟩ := repL (rp.mono (sm2.hid A))
  cases r1
  simp only [maxDM] at q2
  cases hp : intsD ds with
  | none => rw [hp] at q2; exact (show False from q2).elim
  | some ns =>
   rw [hp] at q2
   cases ns with
   | nil => exact (show False from q2).elim
   | cons n0 rr =>
    rw [ints_rep hp h2] at h1
    obtain ⟨its, rv, pla, _⟩ := I2.list (hid_same.seq h1)
    have hlen : its.length = (n0 :: rr).length := by have := rv.length; simpa using this.symm
    have hat := ints_at rv
    refine call_maxD (ns := n0 :: rr) (I2.ok.hd hc) pla.isList (by rw [List.size_toArray, hlen]; simp) hat fun v h' tk hv hk => ?_
    obtain ⟨t, rfl⟩ := hat _ v hv
    have hk1 : its.toArray.size - 1 = rr.length := by rw [List.size_toArray, hlen]; simp
    rw [hk1, (bestM (n0 :: rr) rr.length (by simp)).2]
    have e3 : ((n0 :: rr).drop 1).take rr.length = rr := by simp
    rw [e3]
    exact (fun ht => ⟨.int (rr.foldl gtI n0), H2, I2.kept (t' := tk) hk, ⟨t, rfl⟩, q2 _ H2 (.refl _) rep_int trivial⟩)
 | _ => exact (show False from q2).elim
end
section
variable {X : Cx} {cls : Nat → Addr} {E : XK} {a b c o : Expr} {f g : Rho → M Dt} {fs : Rho → M (List Dt)} {pos : Pos}
theorem flat_S : ∀ ls : List (List Nat), (ls.map S).all flatV = true
 | [] => rfl
 | l :: ls => by
  rw [List.map_cons, List.all_cons, flat_S ls]
  rfl
theorem eqV_S (l m : List Nat) : eqV (S l) (S m) = decide (l = m) := by
 show ((⟨l.toArray⟩ : Str) == ⟨m.toArray⟩) = _
 rw [Bool.eq_iff_iff, beq_iff_eq, decide_eq_true_eq]
 constructor
 ·intro h
  injection h with h
  simpa using congrArg Array.toList h
 ·rintro rfl
  rfl
theorem plainL_obj {h : Heap} {p : Addr} {its : Array Value} (pl : PlainL h p its) : ∃ n sl, h.get? p = some { cls := .type "list", dict := none, data := .seq its n, slots := sl } := by
 obtain ⟨o, n, e, h1, h2, h3⟩ := pl
 refine ⟨n, o.slots, ?_⟩
 rw [e]
 cases o
 simp only at h1 h2 h3
 subst h1 h2 h3
 rfl
theorem mt_countL : MtR X "list.count" (fun x vs H Q => ∃ p xs y, x = .ref p ∧ vs = [y] ∧ SqL X.K H p xs ∧ flatV y = true ∧ xs.all flatV = true ∧ Q (.int (xs.countP fun z => eqV z y)) H) := by
 intro pins s σ H x vs v us Q I rx rv ⟨p, xs, y, ex, ev, hH, fy, fx, q⟩
 subst ex ev
 cases rx
 obtain ⟨u, rfl, ru⟩ := rv.one
 obtain ⟨its, r, pl, hz⟩ := I.list hH
 obtain ⟨n, sl, e⟩ := plainL_obj pl
 refine call_meets F.slot_list_count ⟨_, e, rfl⟩ F.entry_list_count (F.args_list_count_2 _ _) (SeqAt.list_countAt p its.toArray n none sl u (eqU y)) ⟨e, fun w hw => mem_eqAt ru fy r fx w (by simpa using hw), ?_⟩
 refine (fun ht => ⟨.int (xs.countP fun z => eqV z y), H, I.tok _, ⟨s.toks, ?_⟩, q⟩)
 rw [← countP_eqU r fx]
theorem tyL {H : Hp} {ds : List Dt} {x : V} (r : Rep X.K H (.lst ds) x) : tyV X.K "list" x H := by
 obtain ⟨p, xs, rfl, h1, _⟩ := repL r
 exact .inl ⟨rfl, xs, h1⟩
theorem cnt_S (l : List Nat) : ∀ ls : List (List Nat), (ls.map S).countP (fun z => eqV z (S l)) = ls.count l
 | [] => rfl
 | m :: ls => by
  rw [List.map_cons, List.countP_cons, cnt_S l ls, eqV_S, List.count_cons]
  congr 1
  by_cases h : m = l
  ·simp [h]
  ·simp [h]
theorem md_lcnt : MtD X cls E "list" "list.count" mLCnt := by
 refine ⟨_, mt_countL, fun H d k x hk r => ?_, fun A H Q d k x ds vs hk L r z rs zs q => ?_⟩
 ·unfold mLCnt at hk
  split at hk
  ·exact tyL r
  ·cases hk
 ·unfold mLCnt at hk
  split at hk
  ·rename_i es
   injection hk with hk
   subst hk
   unfold lcA at q
   split at q
   ·rename_i l
    obtain ⟨v, rfl, rv⟩ := reps1 rs
    obtain ⟨p, xs, rfl, h1, h2⟩ := repL r
    cases hs : strsM es with
    | none => rw [hs] at q; exact (show False from q).elim
    | some ls =>
     rw [hs] at q
     have hx := strs_rep hs h2
     subst hx
     refine ⟨p, ls.map S, S l, rfl, by rw [repS rv], hid_same.seq h1, rfl, flat_S ls, ?_⟩
     rw [cnt_S]
     exact q _ H (.refl _) rep_int trivial
   ·exact (show False from q).elim
  ·cases hk
theorem ev_lcnt {apos : Pos} (ho : Ev X cls E o f) (ha : Av X cls E [a] fs) (hst : isStar a = false) (hbase : attributeBase o "count" X.env (eval o X.env) = eval o X.env := by rfl) (hline : (apos.endLine == pos.line) = true := by rfl) : Ev X cls E (.Call (.Attribute o "count" apos) [a] [] pos) (pMeth mLCnt f fs) := by
 have hs : starEach [a] X.env = (false, eval a X.env) :: starEach [] X.env := starEach_cons hst
 exact ev_bm PySem.F.plainAttrs_list PySem.F.slot_list_count PySem.F.type_list_count md_lcnt ho ha hbase (by rw [hs]; rfl) hline hs rfl
end
section
variable {X : Cx} {cls : Nat → Addr} {E : XK} {a b c o : Expr} {f g : Rho → M Dt} {fs : Rho → M (List Dt)} {pos : Pos}
theorem Sto.fresh {K : PySem.W.Frag} {Hin : Hp} {A₀ os : List Addr} {ρ : Rho} {σ : St} {H : Hp} {i : Nat} {ds : List Dt} {p : Addr} {vs : List V} (S : Sto K Hin A₀ os ρ σ H) (hp : H p = none) (r : Reps K (hid H (os ++ A₀)) ds vs) (z : sms ds) (hl : ds.length ≤ 10000) :
  Sto K Hin A₀ (p :: os) (ρ.set i (.own ds)) (σ.set i (some (.ref p))) (upd H p (.lst vs)) := by
 obtain ⟨s0, L0, fr, F⟩ := S
 have hpA : p ∉ os ++ A₀ := F.liv.fresh hp
 have s2 : Same H (upd H p (.lst vs)) := .upd hp
 have hpH : Hin p = none := by
  cases e : Hin p with
  | none => rfl
  | some o => have := s0 p o e; rw [hp] at this; cases this
 have sh : Same (hid H (os ++ A₀)) (hid (upd H p (.lst vs)) ((p :: os) ++ A₀)) := fun b o e => by
  obtain ⟨e1, e2⟩ := of_hid e
  have hb : b ≠ p := ne_of_none e2 hp
  rw [hid_ne]
  ·exact s2 b o e2
  ·intro z
   rcases List.mem_cons.mp z with z | z
   ·exact hb z
   ·exact e1 z
 refine ⟨s0.trans s2, L0, fun a ha => ?_, ?_⟩
 ·rcases List.mem_cons.mp ha with z | z
  ·subst z; exact hpH
  ·exact fr a z
 refine ⟨by simp [F.len], fun a ha => ?_, fun a ha => List.mem_append_left _ ha, fun j e he => ?_, fun j es' he => ?_, fun j k ds' es' b hjk e1 e2 e3 e4 => ?_⟩
 ·rcases List.mem_cons.mp ha with z | z
  ·subst z; rw [upd_same]; simp
  ·exact (F.liv.mono s2) a z
 ·by_cases hj : j = i
  ·subst hj
   have hlt : j < ρ.length := by
    have := (List.getElem?_eq_some_iff.mp he).1
    simpa using this
   rw [List.getElem?_set_self hlt] at he
   cases he
  ·rw [List.getElem?_set_ne (Ne.symm hj)] at he ⊢
   obtain ⟨v, e1, e2, e3⟩ := F.val j e he
   exact ⟨v, e1, e2.mono sh, e3⟩
 ·by_cases hj : j = i
  ·subst hj
   have hlt : j < ρ.length := by
    have := (List.getElem?_eq_some_iff.mp he).1
    simpa using this
   rw [List.getElem?_set_self hlt] at he
   cases he
   exact ⟨p, vs, List.getElem?_set_self (by rw [← F.len]; exact hlt), List.mem_cons_self, upd_same, r.mono sh, z, hl⟩
  ·rw [List.getElem?_set_ne (Ne.symm hj)] at he ⊢
   obtain ⟨b, ys, e1, e2, e3, e4, e5⟩ := F.own j es' he
   exact ⟨b, ys, e1, List.mem_cons_of_mem _ e2, s2 _ _ e3, e4.mono sh, e5⟩
 ·have oldp : ∀ (m : Nat) gs, m ≠ i → ρ[m]? = some (.own gs) → σ[m]? ≠ some (some (.ref p)) := fun m gs _ e z => by
   obtain ⟨b, ys, e1, e2, e3, _⟩ := F.own m gs e
   rw [z] at e1
   cases e1
   rw [hp] at e3
   cases e3
  by_cases hj : j = i
  ·subst hj
   have hk : k ≠ j := Ne.symm hjk
   rw [List.getElem?_set_ne hjk] at e2 e4
   have hlt : j < σ.length := by
    have := (List.getElem?_eq_some_iff.mp e3).1
    simpa using this
   rw [List.getElem?_set_self hlt] at e3
   cases e3
   exact oldp k es' hk e2 e4
  ·by_cases hk : k = i
   ·subst hk
    rw [List.getElem?_set_ne (Ne.symm hj)] at e1 e3
    have hlt : k < σ.length := by
     have := (List.getElem?_eq_some_iff.mp e4).1
     simpa using this
    rw [List.getElem?_set_self hlt] at e4
    cases e4
    exact oldp j ds' hj e1 e3
   ·rw [List.getElem?_set_ne (Ne.symm hj)] at e1 e3
    rw [List.getElem?_set_ne (Ne.symm hk)] at e2 e4
    exact F.apart j k ds' es' b hjk e1 e2 e3 e4
variable {scope : Scope} {N : List Str} {k : Nat} {fr : List Nat} {tg iter elt : Expr} {ifs : List Expr} {ι : IM} {gm : GM} {tc : Rho → M Bool} {te : Rho → M Dt}
end
structure LamB (mg : Str → Option Value) (base : Heap) (c P : Addr) : Prop where
 code : CodeHd base c P
 bm : ∃ bm ob, mg "__builtins__" = some (.ref bm) ∧ bm ≠ builtinsNs ∧ base.get? bm = some ob ∧ ob.cls = .type "module" ∧ ob.dict = some builtinsNs ∧ ob.data = .plain
theorem among_snoc {pos : Pos} {a b : Int} {c cv : Value} (l : List Value) (h : TriplesOk l) (e : codeAmong pos (l ++ [rawInt a, rawInt b, c]) = some cv) : codeAmong pos l = some cv ∨ cv = c := by
 fun_induction TriplesOk l with
 | case1 =>
  simp only [List.nil_append, codeAmong, rawInt] at e
  split at e
  ·exact .inr (Option.some.inj e).symm
  ·cases e
 | case2 a' t b' u x rest ih =>
  simp only [List.cons_append, codeAmong] at e ⊢
  split at e
  ·rename_i hc; rw [if_pos hc]; exact .inl e
  ·rename_i hc; rw [if_neg hc]; exact ih h e
 | case3 l h1 h2 => exact h.elim
def CodeO (H : Hp) (c : Addr) (q : Str) : Prop := ∃ oc u vs t, H c = some (.frz oc u) ∧ oc.data = .fields vs ∧ vs[1]? = some (.str q t)
theorem CodeO.mono {H H' : Hp} {c : Addr} {q : Str} (h : CodeO H c q) (f : ∀ b o u, H b = some (.frz o u) → H' b = some (.frz o u)) : CodeO H' c q := by
 obtain ⟨oc, u, vs, t, h1, h2, h3⟩ := h
 exact ⟨oc, u, vs, t, f _ _ _ h1, h2, h3⟩
section
variable {X : Cx} {pins : List (Addr × Obj)} {σ : St} {H : Hp} {s : Shared} {params : Arguments} {body : Expr} {scope : Scope} {pos : Pos} {c P : Addr} {q : Str}
abbrev lamO (q : Str) (params : Arguments) (body : Expr) (scope : Scope) (cells : List (Str × Addr)) (mg : Str → Option Value) (cv ctv : Value) : Obj :=
 { cls := .type "function", data := .func (kla_fn "<lambda>" q params body scope (closOf scope.names cells) ((mg "__name__").getD .none) cv ctv) }
theorem lam_made {Q : Value → Shared → Prop} {E : Value → Shared → Prop} (I : Inv X pins σ H s) (hfree : ∀ y ∈ scope.names, y.2 = .free → ∃ c, X.env.cells.lookup y.1 = some c) (hcode : X.env.code = .ref c) (B : LamB X.mg X.base c P) (hT : H P = some (.tbl q)) (hq : X.env.qual ++ "<lambda>" = q)
  (hdef : defaultsOf params X.env = ([], []))
  (h : ∀ (f c' : Addr) (ctv : Value) (s' : Shared) (H' : Hp), Inv X pins σ H' s' → Same H H' → H' f = some (.frz (lamO q params body scope X.env.cells X.mg (.ref c') ctv) (.own 0)) → CodeO H' c' q → Q (.ref f) s') :
  wpAny (model X.prog X.w) X.A (eval (.Lambda params body scope pos) X.env) Q E s := by
 refine wpAny_with_toks (n := 1) I.tk ?_
 refine kla_eval hdef ?_
 rw [hq]
 obtain ⟨ps, hP, tr, codes⟩ := I.hok P _ hT
 have hcl : closureFor scope X.env = pure (closOf scope.names X.env.cells) := closureFor_of hfree
 have hg : s.heap.Ns mainGlobals X.mg := I.ok.mod.glob.keeps I.bk
 have C : CodeHd s.heap c P := B.code.keeps I.bk
 have nP : ∀ b o, X.base.get? b = some o → b ≠ P := fun b o e z => by
  have := (I.bs b o e).2
  rw [z, hT] at this
  cases this
 have hgP : mainGlobals ≠ P := by
  obtain ⟨o, es, ep, e, _⟩ := I.ok.mod.glob
  exact nP _ _ e
 obtain ⟨bm, ob, b1, b2, b3, b4, b5, b6⟩ := B.bm
 have hbG : bm ≠ mainGlobals := fun z => by
  obtain ⟨o, es, ep, e, hd, _⟩ := I.ok.mod.glob
  rw [z, e] at b3; cases b3; rw [hd] at b6; cases b6
 have hB : s.heap.BuiltinsAt X.mg P := ⟨bm, ob, b1, b2, hbG, nP _ _ b3, I.bk _ _ b3, b4, b5, b6⟩
 cases hf : codeAmong pos ps.toList with
 | some cv =>
  obtain ⟨c', oc, u, rfl, hc', vs, t, hd, hv⟩ := codes pos cv hf
  refine kla_makeFunctionHit (mg := X.mg) hcl I.ok.glob hg hcode C hP tr hf hB fun ctv h' tk hk hsz ht => ?_
  have hfr : H h'.objs.size = none := I.hok.fresh hsz
  have k2 : ∀ b o, s.heap.get? b = some o → (h'.push (lamO q params body scope X.env.cells X.mg (.ref c') ctv)).get? b = some o := fun b o e => Heap.get?_push_of_some _ (hk b o e)
  refine h h'.objs.size c' ctv _ (upd H h'.objs.size (.frz (lamO q params body scope X.env.cells X.mg (.ref c') ctv) (.own 0))) (I.laid (t' := tk) k2 hsz ⟨Heap.get?_push_size _ rfl, ⟨_, Heap.get?_push_size _ rfl⟩⟩) (.upd hfr) upd_same ⟨oc, u, vs, t, by rw [upd_ne (ne_of_none hc' hfr)]; exact hc', hd, hv⟩
 | none =>
  refine kla_makeFunction (mg := X.mg) hcl I.ok.glob hg hcode C hP tr hf hgP hB fun c' ctv h' tk hx hge hlt hrec htb ht => ?_
  obtain ⟨c₂, oc, vs, t, e2, hoc, hd, hv⟩ := hrec
  cases e2
  have hfr : H h'.objs.size = none := I.hok.fresh (Nat.le_trans hge (Nat.le_of_lt hlt))
  have hcr : H c' = none := I.hok.fresh hge
  have hcf : c' ≠ h'.objs.size := Nat.ne_of_lt hlt
  have lt : ∀ b o, s.heap.get? b = some o → b ≠ c' ∧ b ≠ h'.objs.size := fun b o e => ⟨Nat.ne_of_lt (Nat.lt_of_lt_of_le (Heap.lt_size e) hge), Nat.ne_of_lt (Nat.lt_trans (Nat.lt_of_lt_of_le (Heap.lt_size e) hge) hlt)⟩
  have up : ∀ b u, H b = some u → upd (upd H c' (.frz oc (.own 0))) h'.objs.size (.frz (lamO q params body scope X.env.cells X.mg (.ref c') ctv) (.own 0)) b = some u := fun b u e => by
   rw [upd_ne (ne_of_none e hfr), upd_ne (ne_of_none e hcr)]
   exact e
  have k2 : ∀ b o, b ≠ P → s.heap.get? b = some o → (h'.push (lamO q params body scope X.env.cells X.mg (.ref c') ctv)).get? b = some o := fun b o hb e => Heap.get?_push_of_some _ (hx b o hb e)
  have neP : ∀ b, H b = none → b ≠ P := fun b n z => by rw [z, hT] at n; cases n
  have un : Un X.fs [] H (upd (upd H c' (.frz oc (.own 0))) h'.objs.size (.frz (lamO q params body scope X.env.cells X.mg (.ref c') ctv) (.own 0))) s.heap (h'.push (lamO q params body scope X.env.cells X.mg (.ref c') ctv)) := by
   refine ⟨fun b o e n _ _ => k2 b o (neP b n) e, fun b o e n _ _ => ⟨o.slots, k2 b o (neP b n) e⟩, fun b o e n _ => ?_, fun b o e _ => ?_, fun b xs e => up b _ e, fun b ob u e => up b _ e, fun b n e => up b _ e⟩
   ·rw [upd_ne (lt b o e).2, upd_ne (lt b o e).1]
    exact n
   ·by_cases hb : b = P
    ·subst hb
     exact ⟨_, Heap.get?_push_of_some _ htb⟩
    ·exact ⟨o, k2 b o hb e⟩
  have hok : HOk X.prog X.w (upd (upd H c' (.frz oc (.own 0))) h'.objs.size (.frz (lamO q params body scope X.env.cells X.mg (.ref c') ctv) (.own 0))) (h'.push (lamO q params body scope X.env.cells X.mg (.ref c') ctv)) := by
   intro a o e
   by_cases ha : a = h'.objs.size
   ·subst ha
    rw [upd_same] at e
    cases e
    exact ⟨Heap.get?_push_size _ rfl, ⟨_, Heap.get?_push_size _ rfl⟩⟩
   ·rw [upd_ne ha] at e
    by_cases hac : a = c'
    ·subst hac
     rw [upd_same] at e
     cases e
     exact ⟨Heap.get?_push_of_some _ hoc, ⟨_, Heap.get?_push_of_some _ hoc⟩⟩
    ·rw [upd_ne hac] at e
     by_cases hap : a = P
     ·subst hap
      rw [hT] at e
      cases e
      refine ⟨_, Heap.get?_push_of_some _ htb, ?_, fun pos' cv z => ?_⟩
      ·rw [Array.toList_append]
       exact TriplesOk_snoc _ _ _ _ tr
      ·rw [Array.toList_append] at z
       rcases among_snoc _ tr z with z | z
       ·obtain ⟨c2, oc2, u2, z1, z2, z3⟩ := codes pos' cv z
        exact ⟨c2, oc2, u2, z1, up _ _ z2, z3⟩
       ·exact ⟨c', oc, .own 0, z, by rw [upd_ne hcf, upd_same], vs, t, hd, hv⟩
     ·refine (I.hok a o e).stay (fun b u hb r => k2 b u ?_ r) (fun b r => up b _ r) (fun b xs r => up b _ r) fun b ob u r => up b _ r
      rcases hb with rfl | hb
      ·exact hap
      ·rintro rfl
       rw [hT] at hb
       cases hb
  exact h h'.objs.size c' ctv _ _ (I.un (t' := tk) un hok) (fun b u e => up b u e) upd_same ⟨oc, .own 0, vs, t, by rw [upd_ne hcf, upd_same], hd, hv⟩
end
def cxL (CX : CXT) (P : Program) (w : World) (K : PySem.W.Frag) (mg : Str → Option Value) (base : Heap) (N : List Str) (qual : Str) (scope : Scope) (f : Addr) (cd : Value) (cl : List (Str × Addr)) (A : Around) (outer : List Env) (s : Shared) (H : Hp) (E : XK) : Cx where
 prog := P
 w := w
 K := K
 mg := mg
 base := base
 A := A.deeper (envX qual scope s.heap.objs.size f cd cl)
 N := N
 s₀ := s
 H₀ := H
 env := envX qual scope s.heap.objs.size f cd cl
 outer := outer
 stack := envX qual scope s.heap.objs.size f cd cl :: outer
 ex := []
 calm := true
 fn := fun _ => false
 pn := []
 xe := fun e s' => wpAny (model P w) (A.deeper (envX qual scope s.heap.objs.size f cd cl)) (leaving (envX qual scope s.heap.objs.size f cd cl) e) (fun _ s'' => CX outer H s E e s'') (fun e' s'' => CX outer H s E e' s'') s'
section
variable {P : Program} {w : World} {K : PySem.W.Frag} {mg : Str → Option Value} {base : Heap} {N : List Str} {qual : Str} {scope : Scope} {f : Addr} {cd : Value} {cl : List (Str × Addr)} {A : Around} {outer : List Env} {s₀ : Shared} {H₀ : Hp} {E : XK}
theorem rz_L : Rz (cxL (CX1 P w) P w K mg base N qual scope f cd cl A outer s₀ H₀ E) E where
 made := by
  intro pins σ H s h' e C vs I hx hE
  have hfr := I.ok.frames
  have hF := I.stack
  have hin : ∀ env ∈ (cxL (CX1 P w) P w K mg base N qual scope f cd cl A outer s₀ H₀ E).stack, ∀ b, env.frame = some b → b ∈ frs (cxL (CX1 P w) P w K mg base N qual scope f cd cl A outer s₀ H₀ E).stack := fun env he b hb => List.mem_filterMap.mpr ⟨env, he, hb⟩
  refine wpAny_leaves_madeW (base := hideAll s.heap (frs (cxL (CX1 P w) P w K mg base N qual scope f cd cl A outer s₀ H₀ E).stack)) (h := s.heap) hfr rfl (fun b o q => of_hideAll _ q) (funFrames_hide hF hin) hx fun h'' t fl _ _ up => ?_
  have inB : ∀ b o, s.heap.get? b = some o → b ∉ frs (cxL (CX1 P w) P w K mg base N qual scope f cd cl A outer s₀ H₀ E).stack → (hideAll s.heap (frs (cxL (CX1 P w) P w K mg base N qual scope f cd cl A outer s₀ H₀ E).stack)).get? b = some o := fun b o q hb => hideAll_get _ q hb
  have old : ∀ b o, s₀.heap.get? b = some o → b ∉ frs outer → b ∉ frs (cxL (CX1 P w) P w K mg base N qual scope f cd cl A outer s₀ H₀ E).stack := fun b o q hb z => by
   rcases List.mem_cons.mp (I.stkSub b z) with e | e
   ·exact absurd (Heap.lt_size q) (by have := I.ok.above; rw [e]; exact Nat.not_lt.mpr this)
   ·exact hb e
  have noex : ∀ b : Addr, b ∉ (cxL (CX1 P w) P w K mg base N qual scope f cd cl A outer s₀ H₀ E).ex := fun b z => nomatch z
  have keepX : ∀ b o, s₀.heap.get? b = some o → H₀ b = none → b ∉ frs outer → (hideAll s.heap (frs (cxL (CX1 P w) P w K mg base N qual scope f cd cl A outer s₀ H₀ E).stack)).get? b = some o := fun b o q n hb => inB b o (I.base.keep b o q n hb (noex b)) (old b o q hb)
  have thereX : ∀ b o, s₀.heap.get? b = some o → b ∉ frs outer → ∃ o', (hideAll s.heap (frs (cxL (CX1 P w) P w K mg base N qual scope f cd cl A outer s₀ H₀ E).stack)).get? b = some o' := fun b o q hb => by
   obtain ⟨o', q'⟩ := I.base.there b o q (noex b)
   exact ⟨o', inB b o' q' (old b o q hb)⟩
  have slotX : ∀ b o, s₀.heap.get? b = some o → H₀ b = none → b ∈ frs outer → ∃ sl, h''.get? b = some { o with slots := sl } := fun b o q n hb => by
   obtain ⟨sl, q'⟩ := I.base.slot b o q n hb (noex b)
   obtain ⟨_, o2, q2, nf⟩ := I.ok.funs.mem hb
   have q2' : s₀.heap.get? b = some o2 := q2
   rw [q] at q2'
   cases q2'
   obtain ⟨sl', q3⟩ := up b _ (hx.keeps b _ q') (by intro vs z; exact nf vs z)
   exact ⟨sl', q3⟩
  refine ⟨e, C, H, _, _, rfl, I.os, I.bare, fl, fun a o q => ?_, ⟨fun b o q n hb _ => fl.1 b o (keepX b o q n hb), fun b o q n hb _ => slotX b o q n hb, fun b o q n _ => I.base.free b o q n (noex b), fun b o q _ => ?_, I.base.tups, I.base.frzs, I.base.tbls⟩, keepX, thereX, ?_, hE⟩
  ·have na : ∀ b u, H b = some u → b ∉ frs (cxL (CX1 P w) P w K mg base N qual scope f cd cl A outer s₀ H₀ E).stack := fun b u q z => by
    have := I.stkFree b z
    rw [q] at this
    cases this
   refine (I.hok a o q).stay (fun c u hc r => inB c u r ?_) (fun _ z => z) fun _ _ z => z
   rcases hc with rfl | hc
   ·exact na _ _ q
   ·exact na _ _ hc
  ·by_cases hb : b ∈ frs outer
   ·have hn : H₀ b = none := I.ok.frf b hb
    obtain ⟨sl, q'⟩ := slotX b o q hn hb
    exact ⟨_, q'⟩
   ·obtain ⟨o', q'⟩ := thereX b o q hb
    exact ⟨o', fl.1 b o' q'⟩
  ·cases q : H e with
   | none => rfl
   | some u =>
    obtain ⟨ob, z⟩ := (I.hok e u q).there
    rw [hx.new] at z
    cases z
 pass := by
  intro pins σ H s e s' I hc
  obtain ⟨ea, C, H', B, a0, rfl, hos, hb, fl, hok, un, keepB, thereB, hea, hE⟩ := hc
  have hfr := I.ok.frames
  refine wpAny_leaves_onW hfr rfl fl fun h'' fl' up => ?_
  have old : ∀ b o, s₀.heap.get? b = some o → b ∉ frs outer → b ∉ frs (cxL (CX1 P w) P w K mg base N qual scope f cd cl A outer s₀ H₀ E).stack := fun b o q hb z => by
   rcases List.mem_cons.mp (I.stkSub b z) with e | e
   ·exact absurd (Heap.lt_size q) (by have := I.ok.above; rw [e]; exact Nat.not_lt.mpr this)
   ·exact hb e
  have noex : ∀ b : Addr, b ∉ (cxL (CX1 P w) P w K mg base N qual scope f cd cl A outer s₀ H₀ E).ex := fun b z => nomatch z
  have keepX : ∀ b o, s₀.heap.get? b = some o → H₀ b = none → b ∉ frs outer → B.get? b = some o := fun b o q n hb => keepB b o (I.base.keep b o q n hb (noex b)) (I.base.free b o q n (noex b)) (old b o q hb)
  have thereX : ∀ b o, s₀.heap.get? b = some o → b ∉ frs outer → ∃ o', B.get? b = some o' := fun b o q hb => by
   obtain ⟨o', q'⟩ := I.base.there b o q (noex b)
   exact thereB b o' q' (old b o q hb)
  have sub : ∀ b, b ∈ frs outer → b ∈ frs (cxL (CX1 P w) P w K mg base N qual scope f cd cl A outer s₀ H₀ E).stack := fun b hb => by
   show b ∈ frs (_ :: outer)
   unfold frs
   rw [List.filterMap_cons]
   split
   ·exact hb
   ·exact List.mem_cons_of_mem _ hb
  have slotX : ∀ b o, s₀.heap.get? b = some o → H₀ b = none → b ∈ frs outer → ∃ sl, h''.get? b = some { o with slots := sl } := fun b o q n hb => by
   obtain ⟨sl, q'⟩ := I.base.slot b o q n hb (noex b)
   obtain ⟨sl2, q2'⟩ := un.slot b _ q' (I.base.free b o q n (noex b)) (sub b hb) (by simp)
   obtain ⟨_, o2, q2, nf⟩ := I.ok.funs.mem hb
   have q2'' : s₀.heap.get? b = some o2 := q2
   rw [q] at q2''
   cases q2''
   obtain ⟨sl', q3⟩ := up b _ q2' (by intro vs z; exact nf vs z)
   exact ⟨sl', q3⟩
  refine ⟨ea, C, H', B, a0, rfl, hos.trans I.os, hb, fl', hok, ⟨fun b o q n hb _ => fl'.1 b o (keepX b o q n hb), fun b o q n hb _ => slotX b o q n hb, fun b o q n _ => ?_, fun b o q _ => ?_, fun b xs q => un.tups b xs (I.base.tups b xs q), fun b o u q => un.frzs b o u (I.base.frzs b o u q), fun b ps q => ?_⟩, keepX, thereX, hea, hE⟩
  ·obtain ⟨o', q'⟩ := I.base.there b o q (noex b)
   exact un.free b o' q' (I.base.free b o q n (noex b)) (by simp)
  ·by_cases hb : b ∈ frs outer
   ·have hn : H₀ b = none := I.ok.frf b hb
    obtain ⟨sl, q'⟩ := slotX b o q hn hb
    exact ⟨_, q'⟩
   ·obtain ⟨o', q'⟩ := thereX b o q hb
    exact ⟨o', fl'.1 b o' q'⟩
  ·exact un.tbls b ps (I.base.tbls b ps q)
end
structure LScope (X : Cx) (scope : Scope) (N : List Str) (fr : List Nat) : Prop where
 c : CScope X scope N 0 fr
 co : scope.isCoroutine = false
 gen : scope.isGenerator = false
 nocell : ∀ x ∈ scope.names, x.2 ≠ .cell
section
variable {X : Cx} {scope : Scope} {N : List Str} {fr : List Nat} {pins : List (Addr × Obj)} {σ : St} {H H2 : Hp} {s s2 : Shared} {A : Around} {outer : List Env} {E : XK} {q : Str} {f : Addr} {cv : Value} {h1 : Heap} {t1 : Nat} {m : Str → Option Value}
theorem invL (S : LScope X scope N fr) (I : Inv X pins σ H s) (un : Un (frs X.stack) [] H H2 s.heap s2.heap) (e0 : Env0 X.prog X.w X.K X.mg X.base A outer s2 H2) (hd : A.handled = none) (hns : h1.Ns s2.heap.objs.size m) (hkeep : ∀ b o, s2.heap.get? b = some o → h1.get? b = some o) (ht1 : 0 < t1) :
  Inv (cxL (CX1 X.prog X.w) X.prog X.w X.K X.mg X.base N q scope f cv (closOf scope.names X.env.cells) A outer s2 H2 E) [] (startC 0 fr σ) H2 { s2 with heap := h1, toks := t1 } := by
 have lk : ∀ {x : Str} {c : Addr}, (closOf scope.names X.env.cells).lookup x = some c → X.env.cells.lookup x = some c := fun h => closOf_look (S.c.cells I.ok) h
 have cellK : ∀ x c v, X.env.cells.lookup x = some c → s.heap.IsCell c v → h1.IsCell c v := fun x c v hc ⟨o, ho, hd⟩ => by
  obtain ⟨sl, q⟩ := un.any ho (I.freeC x c hc) (by simp)
  exact ⟨_, hkeep _ _ q, hd⟩
 have noA : ∀ b : Addr, b ∉ (cxL (CX1 X.prog X.w) X.prog X.w X.K X.mg X.base N q scope f cv (closOf scope.names X.env.cells) A outer s2 H2 E).ex := fun b z => nomatch z
 refine ⟨⟨e0.mod, S.c.kind, rfl, rfl, Nat.le_refl _, fun y z c h1 h2 => I.ok.inj y z c (lk h1) (lk h2), fun y hy => ?_, (fun y c z _ => nomatch z), fun _ => hd, Around.frames_deeper e0.frames, .inr ⟨rfl, rfl⟩, fun b z => absurd z (noA b), e0.bs, e0.bsz, fun b _ _ => noA b, fun b z => absurd z (noA b), e0.funs, e0.frf⟩,
  rfl, e0.bare, Un.kept hkeep, ⟨m, hns, fun i x v e1 e2 e3 => ?_⟩, fun x c hc => ?_, e0.hok.fresh (Nat.le_refl _), fun x c hc => ?_, (fun p hp => nomatch (show p ∈ ([] : List (Addr × Obj)) from hp)), e0.hok.kept hkeep, ?_, ht1⟩
 ·have hy : scope.names.lookup y = some .cell ∨ scope.names.lookup y = some .free := hy
  rcases hy with hy | hy
  ·exact absurd rfl (S.nocell _ (lookup_mem hy))
  ·exact clos_mem (cells := X.env.cells) scope.names [] (.inl (lookup_mem hy))
 ·unfold startC at e2
  simp only [List.replicate_zero, List.nil_append, List.getElem?_map] at e2
  have hj : i < fr.length := by
   cases q : fr[i]? with
   | none => rw [q] at e2; cases e2
   | some _ => exact (List.getElem?_eq_some_iff.mp q).1
  have ha := List.all_eq_true.mp S.c.at_ i (by simpa using hj)
  have e1' : N[0 + i]? = some x := by rw [Nat.zero_add]; exact e1
  cases q : fr[i]? with
  | none => rw [q] at e2; cases e2
  | some p =>
   rw [q] at e2
   simp only [e1', q] at ha
   obtain ⟨a1, a2⟩ := Bool.and_eq_true_iff.mp ha
   have a1' : X.N[p]? = some x := by simpa using a1
   have a2' : scope.names.lookup x = some .free := by simpa using a2
   have e2' : (σ[p]?).getD none = some v := by simpa using e2
   have e2'' : σ[p]? = some (some v) := by
    cases z : σ[p]? with
    | none => rw [z] at e2'; cases e2'
    | some y => rw [z] at e2'; simpa using e2'
   have hfr := S.c.frees (x, .free) (lookup_mem a2') rfl
   obtain ⟨m0, hn0, hl0⟩ := I.loc
   have hvis : Vis X.env.scope x := by
    rcases hfr with z | z
    ·exact .inr (.inl z)
    ·exact .inr (.inr z)
   obtain ⟨u, r, l⟩ := hl0 p x v a1' e2'' hvis
   refine ⟨u, r, .inr ⟨.inr a2', ?_⟩⟩
   have hc : ∃ c, X.env.cells.lookup x = some c ∧ s.heap.IsCell c (some u) := by
    rcases l with ⟨z, _⟩ | ⟨_, c, hc, hv⟩
    ·rcases hfr with y | y
     ·have y' : X.env.kindOf x = some .cell := y
      rw [y'] at z; cases z
     ·have y' : X.env.kindOf x = some .free := y
      rw [y'] at z; cases z
    ·exact ⟨c, hc, hv⟩
   obtain ⟨c, hc, hv⟩ := hc
   obtain ⟨c1, hc1⟩ := clos_mem (cells := X.env.cells) scope.names [] (.inl (lookup_mem a2'))
   have hcc := lk hc1
   rw [hc] at hcc
   cases hcc
   exact ⟨c, hc1, cellK x c _ hc hv⟩
 ·obtain ⟨v, z⟩ := I.cell x c (lk hc)
  exact ⟨v, cellK x c v (lk hc) z⟩
 ·obtain ⟨v, o, ho, _⟩ := I.cell x c (lk hc)
  exact un.free c o ho (I.freeC x c (lk hc)) (by simp)
 ·have := S.c.len
  show (startC 0 fr σ).length = N.length
  unfold startC
  simp [this]
end
abbrev cxOfM (cm : Bool) (CX : CXT) (P : Program) (w : World) (K : PySem.W.Frag) (mg : Str → Option Value) (base : Heap) (N : List Str) (qual : Str) (scope : Scope) (f : Addr) (cd : Value) (A : Around) (outer : List Env) (s : Shared) (H : Hp) (E : XK) : Cx :=
 { cxOf CX P w K mg base N qual scope f cd A outer s H E with calm := cm }
theorem inv_startM {cm : Bool} {CX : CXT} {P : Program} {w : World} {K : PySem.W.Frag} {mg : Str → Option Value} {base : Heap} {N ps : List Str} {qual : Str} {scope : Scope} {f : Addr} {cd : Value} {A : Around} {outer : List Env} {s s1 : Shared} {H : Hp} {E : XK} {us : List Value} {vs : List V}
  (S : FnScope N ps scope) (hd : cm = true → A.handled = none) (e0 : Env0 P w K mg base A outer s H) (hl : vs.length = ps.length) (r : Vals vs us)
  (x : InCallC s s.heap.objs.size (bindL (envOfC qual scope s.heap.objs.size f cd).kindOf (ps.zip us) fun _ => none) (cellsFrom (s.heap.objs.size + 1) scope.names []) (bindC (envOfC qual scope s.heap.objs.size f cd).kindOf (ps.zip us) fun _ => none) s1) (ht1 : 0 < s1.toks) :
  Inv (cxOfM cm CX P w K mg base N qual scope f cd A outer s H E) [] (start N vs) H s1 := by
 have hpl : ps.length ≤ N.length := by have := congrArg List.length S.pre; rw [List.length_take] at this; omega
 obtain ⟨h1, tk, rfl, hk⟩ := x.done
 have noA : ∀ b : Addr, b ∉ (cxOfM cm CX P w K mg base N qual scope f cd A outer s H E).ex := fun b z => absurd (show b ∈ ([] : List Addr) from z) (by simp)
 refine ⟨⟨e0.mod, S.kind, rfl, rfl, Nat.le_refl _, fun y z c h1 h2 => ?_, fun y hy => ?_, fun y c _ h => ?_, hd, Around.frames_deeper e0.frames, .inr ⟨rfl, rfl⟩, fun b z => absurd z (noA b), e0.bs, e0.bsz, fun b _ _ => noA b, fun b z => absurd z (noA b), e0.funs, e0.frf⟩,
  rfl, e0.bare, Un.kept hk, ⟨_, x.toInCall.ns, fun i y v h1 h2 h3 => ?_⟩, fun y c h => ⟨_, x.cell y c h⟩, e0.hok.fresh (Nat.le_refl _), fun y c h => ?_, fun p hp => absurd (show p ∈ ([] : List (Addr × Obj)) from hp) (by simp), e0.hok.kept hk, ?_, ht1⟩
 ·exact name_of_addr x.apart (PySem.mem_of_lookup h1) (PySem.mem_of_lookup h2)
 ·have hy : scope.names.lookup y = some .cell ∨ scope.names.lookup y = some .free := hy
  rcases hy with hy | hy
  ·exact cell_has hy
  ·exact absurd rfl (S.nofree _ (PySem.mem_of_lookup hy))
 ·exact Nat.le_of_lt (x.above y c (PySem.mem_of_lookup h))
 ·have hi : i < vs.length := by
   unfold start at h2
   by_cases hi : i < vs.length
   ·exact hi
   ·rw [List.getElem?_append_right (by simpa using hi)] at h2
    rw [List.getElem?_replicate] at h2
    split at h2 <;> cases h2
  have ha : vs[i]? = some v := by
   unfold start at h2
   rw [List.getElem?_append_left (by simpa using hi), List.getElem?_map] at h2
   cases e : vs[i]? with
   | none => rw [e] at h2; cases h2
   | some a => rw [e] at h2; cases h2; rfl
  obtain ⟨u, hu, rv⟩ := r.get ha
  have hp : ps[i]? = some y := by
   rw [← S.pre, List.getElem?_take_of_lt (by omega)]; exact h1
  have ndP : ps.Nodup := by rw [← S.pre]; exact S.nd.sublist (List.take_sublist _ _)
  refine ⟨u, rv, ?_⟩
  rcases S.par y (List.mem_of_getElem? hp) with k | k
  ·exact .inl ⟨k, bindL_get ndP hp hu k⟩
  ·obtain ⟨c, e⟩ := cell_has (n := s.heap.objs.size + 1) k
   refine .inr ⟨.inl k, c, e, ?_⟩
   have q := x.cell y c e
   rw [bindC_get ndP hp hu (by show scope.names.lookup y ≠ _; rw [k]; decide)] at q
   exact q
 ·exact e0.hok.fresh (Nat.le_of_lt (x.above y c (PySem.mem_of_lookup h)))
 ·unfold start
  show _ = N.length
  rw [List.length_append, List.length_map, List.length_replicate]
  omega
theorem fn_run {cm : Bool} {CX : CXT} {P : Program} {w : World} {K : PySem.W.Frag} {mg : Str → Option Value} {base : Heap} {f : Addr} {name qual : Str} {params : Arguments} {body : List Stmt} {scope : Scope} {dV kV doc pm cdv ct oc : Value} {an od : Option Addr}
  {osl : Array (Option Value)} {N ps : List Str} (lk : K.lookup f = some ⟨oc, od, .func (PySem.W.fnOf name qual params body scope dV kV doc pm an cdv ct), osl⟩) (hcd : PySem.W.codeIn K cdv qual = true) (S : FnScope N ps scope)
  {A : Around} {outer : List Env} {s : Shared} {H : Hp} {args : Args} {us : List Value} {vs : List V} {Q : VK} {E : XK} (hdep : A.depth < recursionLimit) (hd : cm = true → A.handled = none) (e0 : Env0 P w K mg base A outer s H) (ht0 : 0 < s.toks ∨ False) (hb : BindsTo s (PySem.W.fnOf name qual params body scope dV kV doc pm an cdv ct) args (ps.zip us)) (r : Vals vs us) (hl : vs.length = ps.length)
  (hbody : ∃ t, PSs (cxOfM cm CX P w K mg base N qual scope f cdv A outer s H E) body t ∧ t { nx := fun _ H' => Q .non H', rt := Q } (start N vs) H) :
  codeAny (model P w) A (.call (.ref f) args) (CR CX outer P w H s Q E) s := by
 have KX : K.In s.heap := e0.mod.kin.keeps fun b o e => (e0.bs b o e).1
 have lim : s.heap.NoLimit := e0.mod.nolimit.keeps fun b o e => (e0.bs b o e).1
 have hkind : ∀ y ∈ ps.zip us, scope.names.lookup y.1 = some .local ∨ (scope.names.lookup y.1 = some .cell ∧ ((cellsFrom (s.heap.objs.size + 1) scope.names []).lookup y.1).isSome = true) := fun ⟨n, v⟩ hy => by
  rcases S.par n (List.of_mem_zip hy).1 with q | q
  ·exact .inl q
  ·exact .inr ⟨q, PySem.W.cellsFrom_some _ _ _ (.inl q)⟩
 refine codeAny_call_function hdep (KX _ _ lk) rfl S.co S.gen rfl (PySem.W.codeRec_of KX hcd) (hb _ _ _ _ ?_)
 refine wpAny_with_toks (n := 1) (ht0.resolve_right id) (wpAny_newFunctionEnv_cells S.kind hkind fun env he s1 x ht1 => ?_)
 subst he
 refine ⟨lim.keeps x.toInCall.keep, codeAny_func ?_⟩
 obtain ⟨t, ht, hq⟩ := hbody
 have I : Inv (cxOfM cm CX P w K mg base N qual scope f cdv A outer s H E) [] (start N vs) H s1 := inv_startM S hd e0 hl r x ht1
 refine thn (ht [] s1 (start N vs) H _ I hq) fun fl s' hs => ?_
 have fin : ∀ {σ' : St} {H' : Hp} {v : V} {u : Value}, Inv (cxOfM cm CX P w K mg base N qual scope f cdv A outer s H E) [] σ' H' s' → RelV v u → Q v H' → CE outer P w H s Q u s' :=
  fun {σ' H' v u} J rv q => ⟨v, H', J.os, J.bare, J.base, J.hok, rv, q⟩
 cases fl with
 | ret u =>
  obtain ⟨v, σ', H', J, rv, q⟩ := hs
  exact fin J rv q
 | next =>
  obtain ⟨σ', H', J, q⟩ := hs
  exact fin (v := V.non) (u := Value.none) J rfl q
 | brk =>
  obtain ⟨_, _, _, q⟩ := hs
  exact False.elim q
 | cont =>
  obtain ⟨_, _, _, q⟩ := hs
  exact False.elim q
structure ClassK (K : PySem.W.Frag) (C c0 c1 c2 c3 c4 c5 c6 c7 : Addr) (j : Nat) : Prop where
 z : ExcK K C
 lt : j < 8
 w0 : kitOne K (.ref C) (.ref c0) = some (j == 0)
 w1 : kitOne K (.ref C) (.ref c1) = some (j == 1)
 w2 : kitOne K (.ref C) (.ref c2) = some (j == 2)
 w3 : kitOne K (.ref C) (.ref c3) = some (j == 3)
 w4 : kitOne K (.ref C) (.ref c4) = some (j == 4)
 w5 : kitOne K (.ref C) (.ref c5) = some (j == 5)
 w6 : kitOne K (.ref C) (.ref c6) = some (j == 6)
 w7 : kitOne K (.ref C) (.ref c7) = some (j == 7)
 ve : kitOne K (.ref C) (.type "ValueError") = some true
theorem bind0 (fd : FuncData) (h1 : fd.params = { posonlyargs := [], args := [], vararg := none, kwonlyargs := [], kw_defaults := [], kwarg := none, defaults := [] }) (h2 : fd.defaults = .none) (h3 : fd.kwdefaults = .none) : bindArgs fd ⟨[], []⟩ = pure [] := by
 obtain ⟨_, _, _, _, _, _, _, _, _, _, _, _, _, _⟩ := fd
 simp only at h1 h2 h3
 subst h1 h2 h3
 rfl
abbrev Tabs := List (Addr × Addr × Str)
def tabH (tabs : Tabs) (b : Addr) : Option HO := (tabs.find? fun t => t.2.1 == b).map fun t => .tbl t.2.2
theorem tabH_at : ∀ {tabs : Tabs}, tabs.Pairwise (fun x y => x.2.1 ≠ y.2.1) → ∀ t ∈ tabs, tabH tabs t.2.1 = some (.tbl t.2.2)
 | t :: r, h, u, hu => by
  rw [List.pairwise_cons] at h
  unfold tabH
  rw [List.find?_cons]
  rcases List.mem_cons.mp hu with rfl | hu
  ·simp
  ·have hne : (t.2.1 == u.2.1) = false := by simpa using h.1 u hu
   rw [hne]
   exact tabH_at h.2 u hu
theorem tabH_of {tabs : Tabs} {b : Addr} {u : HO} (h : tabH tabs b = some u) : ∃ t ∈ tabs, t.2.1 = b ∧ u = .tbl t.2.2 := by
 unfold tabH at h
 obtain ⟨t, h1, h2⟩ := Option.map_eq_some_iff.mp h
 exact ⟨t, List.mem_of_find?_eq_some h1, by simpa using List.find?_some h1, h2.symm⟩
theorem law_callT {P : Program} {w : World} {K : PySem.W.Frag} {mg mb : Str → Option Value} {CX : CXT} {k : Nat} {fa a : Addr} {fd : FuncData} {x : Str} {sp : Sp} {s₁ : Shared} {vs : List Value} {ns : List Int} {tabs : Tabs}
  (KX : K.In s₁.heap) (hns : s₁.heap.Ns mainGlobals mg) (hb : s₁.heap.Ns builtinsNs mb) (hbb : ∀ x : Str, x ≠ "__name__" → mb x = bootBuiltins x) (hlim : s₁.heap.NoLimit) (hg : s₁.gens = #[])
  (ha : s₁.heap.get? a = some { cls := .type "list", data := .seq vs.toArray }) (hi : IntsAre vs ns) (hl : ns.length ≤ sizeLine) (hr : Room k callerA)
  (hnd : tabs.Pairwise (fun x y => x.2.1 ≠ y.2.1)) (hT : ∀ t ∈ tabs, CodeHd s₁.heap t.1 t.2.1 ∧ s₁.heap.get? t.2.1 = some (tabObj #[])) (hKt : noTabs K = true)
  (hbm : ∃ bm ob, mg "__builtins__" = some (.ref bm) ∧ bm ≠ builtinsNs ∧ s₁.heap.get? bm = some ob ∧ ob.cls = .type "module" ∧ ob.dict = some builtinsNs ∧ ob.data = .plain)
  (F : ∀ base : Heap, K.In base → base.Ns mainGlobals mg → (∀ t ∈ tabs, LamB mg base t.1 t.2.1) → FnOk P w K mg base CX k fa fd [x] sp) (hbind : ∀ (s : Shared) (u : Value), BindsTo s fd ⟨[u], []⟩ [(x, u)])
  (hsp : ∀ H : Hp, (∀ t ∈ tabs, H t.2.1 = some (.tbl t.2.2)) → SqL K H a (ns.map V.int) → sp [.ref a] H (fun v _ => v = .bl true) fun _ _ _ => False)
  (hCX : ∀ H e s', CX [] H s₁ (fun _ _ _ => False) e s' → False) (hx : x = lawS := by rfl) :
  codeAny (model P w) callerA (.call (.ref fa) ⟨[.ref a], []⟩) (fun r s' => r = .ok (.ret (.bool true)) ∧ OldK s₁.heap s'.heap ∧ s'.os = s₁.os ∧ AllBare s'.gens) s₁ := by
 have rv := vals_ints hi
 have lenV := hi.length
 have naP : ∀ t ∈ tabs, t.2.1 ≠ a := fun t ht z => by
  have e := (hT t ht).2
  rw [z, ha] at e
  cases e
 have core : ∀ H : Hp, (∀ b, H b = tabH tabs b ∨ (b = a ∧ ∃ o xs, H b = some (.frz o (.lst xs)))) → SqL K H a (ns.map V.int) → HOk P w H s₁.heap → (H a ≠ none → K.lookup a = none) →
   codeAny (model P w) callerA (.call (.ref fa) ⟨[.ref a], []⟩) (fun r s' => r = .ok (.ret (.bool true)) ∧ OldK s₁.heap s'.heap ∧ s'.os = s₁.os ∧ AllBare s'.gens) s₁ := by
  intro H hO hS hok hK
  have base_of : ∀ {b : Addr} {o : Obj}, s₁.heap.get? b = some o → H b = none → (hidT s₁.heap H).get? b = some o := fun e n => hidT_get e n
  have tabAt : ∀ t ∈ tabs, H t.2.1 = some (.tbl t.2.2) := fun t ht => by
   rcases hO t.2.1 with z | ⟨z, _⟩
   ·rw [z]; exact tabH_at hnd t ht
   ·exact absurd z (naP t ht)
  have kinds : ∀ b o, s₁.heap.get? b = some o → H b ≠ none → b = a ∨ o = tabObj #[] := fun b o e n => by
   rcases hO b with z | ⟨z, _⟩
   ·cases q : tabH tabs b with
    | none => rw [z, q] at n; exact absurd rfl n
    | some u =>
     obtain ⟨t, ht, h1, _⟩ := tabH_of q
     have e2 := (hT t ht).2
     rw [h1, e] at e2
     exact .inr (Option.some.inj e2)
   ·exact .inl z
  have free : ∀ b o, s₁.heap.get? b = some o → o.cls ≠ .type "list" → o ≠ tabObj #[] → H b = none := fun b o e n1 n2 => by
   cases q : H b with
   | none => rfl
   | some u =>
    rcases kinds b o e (by rw [q]; simp) with z | z
    ·subst z
     rw [ha] at e; cases e
     exact absurd rfl n1
    ·exact absurd z n2
  have freeD : ∀ b o es ep, s₁.heap.get? b = some o → o.data = .dict es ep → H b = none := fun b o es ep e d => by
   cases q : H b with
   | none => rfl
   | some u =>
    rcases kinds b o e (by rw [q]; simp) with z | z
    ·subst z
     rw [ha] at e; cases e
     have d' : Data.seq vs.toArray _ = Data.dict es ep := d
     cases d'
    ·rw [z] at d
     cases d
  have nsK : ∀ {b : Addr} {m : Str → Option Value}, s₁.heap.Ns b m → (hidT s₁.heap H).Ns b m := fun {b m} ⟨o, es, ep, e, d, r⟩ => ⟨o, es, ep, base_of e (freeD b o es ep e d), d, r⟩
  have hKb : K.In (hidT s₁.heap H) := fun b o e => base_of (KX b o e) (by
   cases q : H b with
   | none => rfl
   | some u =>
    rcases kinds b o (KX b o e) (by rw [q]; simp) with z | z
    ·subst z
     rw [hK (by rw [q]; simp)] at e; cases e
    ·have h2 := List.all_eq_true.mp hKt (b, o) (mem_of_lookupK e)
     rw [z] at h2
     exact absurd (show false = true from h2) Bool.false_ne_true)
  have hM : Mod K mg (hidT s₁.heap H) := ⟨hKb, nsK hns, ⟨mb, nsK hb, hbb⟩, let ⟨mc, h1, h2⟩ := hlim; ⟨mc, nsK h1, h2⟩⟩
  have hLB : ∀ t ∈ tabs, LamB mg (hidT s₁.heap H) t.1 t.2.1 := fun t ht => by
   obtain ⟨⟨o, vs', file, tf, flags, tg, inF, text, tt, e1, c1, r⟩, _⟩ := hT t ht
   obtain ⟨bm, ob, b1, b2, b3, b4, b5⟩ := hbm
   exact ⟨⟨o, vs', file, tf, flags, tg, inF, text, tt, base_of e1 (free _ _ e1 (by rw [c1]; intro z; injection z with z; exact absurd z (by decide)) (by intro z; rw [z] at c1; cases c1)), c1, r⟩, bm, ob, b1, b2, base_of b3 (free _ _ b3 (by rw [b4]; intro z; injection z with z; exact absurd z (by decide)) (by intro z; rw [z] at b4; cases b4)), b4, b5⟩
  have e0 : Env0 P w K mg (hidT s₁.heap H) callerA [] s₁ H := ⟨rfl, hM, fun b o e => of_hidT e, Nat.le_of_eq (hidT_size _ _), trivial, fun b hb => absurd (show b ∈ ([] : List Addr) from hb) (by simp), hok, .of_eq hg⟩
  refine codeAny_mono ((F _ hKb (nsK hns) hLB).run callerA [] s₁ H ⟨[.ref a], []⟩ [.ref a] [.ref a] _ _ hr e0 (.inr (by rw [hx])) (hbind s₁ (.ref a)) (.cons rfl .nil) (hsp H tabAt hS)) fun r s' h => ?_
  cases r with
  | error e => exact (hCX H e s' h).elim
  | ok fl =>
   cases fl with
   | next => exact False.elim h
   | brk => exact False.elim h
   | cont => exact False.elim h
   | ret u =>
    obtain ⟨v, H', os, bare, un, hok', r', q⟩ := h
    have q' : v = .bl true := q
    subst q'
    obtain rfl : u = Value.bool true := r'
    refine ⟨rfl, ⟨fun b o e => ?_, fun b o e => un.there b o e (by simp)⟩, os, bare⟩
    cases q : H b with
    | none => exact .inl (un.keep b o e q (by intro z; exact absurd (show b ∈ ([] : List Addr) from z) (by simp)) (by simp))
    | some u =>
     rcases hO b with z | ⟨_, ob, xs, z⟩
     ·rw [q] at z
      obtain ⟨t, ht, h1, h2⟩ := tabH_of z.symm
      subst h1 h2
      have z2 := un.tbls _ _ q
      obtain ⟨ps, hP, _⟩ := hok' _ _ z2
      have e2 := (hT t ht).2
      rw [e] at e2
      cases e2
      exact .inr (.inl ⟨((hT t ht).1.tab (hT t ht).2).isCodeTable, rfl, #[], ps, rfl, by rw [Array.empty_append]; exact hP⟩)
     ·have z2 := un.frzs b ob _ z
      obtain ⟨e1, _⟩ := hok b _ z
      obtain ⟨e2, _⟩ := hok' b _ z2
      rw [e] at e1; cases e1
      exact .inl e2
 have okT : ∀ (H : Hp) b u, tabH tabs b = some u → ObjOk P w H s₁.heap b u := fun H b u z => by
  obtain ⟨t, ht, h1, h2⟩ := tabH_of z
  subst h1 h2
  exact ⟨#[], (hT t ht).2, trivial, fun pos cv z => by cases z⟩
 cases hk : K.lookup a with
 | some o =>
  have e := KX a o hk
  rw [ha] at e
  cases e
  have hna : tabH tabs a = none := by
   cases q : tabH tabs a with
   | none => rfl
   | some u =>
    obtain ⟨t, ht, h1, _⟩ := tabH_of q
    exact absurd h1 (naP t ht)
  refine core (tabH tabs) (fun _ => .inl rfl) (.inr ⟨_, vs.toArray, _, hk, rfl, rfl, rfl, by rw [List.size_toArray, lenV]; exact hl, by simpa using rv⟩) (fun b u z => okT _ b u z) fun z => absurd hna z
 | none =>
  refine core (fun b => if b = a then some (.frz { cls := .type "list", data := .seq vs.toArray } (.lst (ns.map V.int))) else tabH tabs b) (fun b => ?_) (.inl (.inr ⟨{ cls := .type "list", data := .seq vs.toArray }, if_pos rfl⟩)) (fun b u z => ?_) fun _ => hk
  ·by_cases hb : b = a
   ·exact .inr ⟨hb, _, _, if_pos hb⟩
   ·exact .inl (if_neg hb)
  ·by_cases hb : b = a
   ·have z' := (if_pos hb).symm.trans z
    cases z'
    subst hb
    exact ⟨ha, by rw [List.length_map]; exact hl, vs, _, rv, ha⟩
   ·have z' := (if_neg hb).symm.trans z
    exact okT _ b u z'
theorem walk_ofT {l : PySem.W.OpenLaw} {n k : Nat} {q : Program} {loose : List Str} {XP : (Str → Option Value) → Heap → Prop} {YP : World → Heap → Prop} {d : DefRec} {K : Params → PySem.W.Frag} {CX : World → CXT} {sp : World → Sp} {x : Str} {tabs : Tabs}
  (hn : l.most = some n) (hn2 : n ≤ sizeLine) (hdf : d.params.defaults = []) (hr : Room k callerA)
  (hY : ∀ (w : World) (h : Heap), YP w h → (K w.params).In h)
  (hnd : tabs.Pairwise (fun x y => x.2.1 ≠ y.2.1)) (hKt : ∀ w : World, noTabs (K w.params) = true)
  (hT : ∀ (w : World) (lz : List Str) (mean : ExcName → Option Value) (mg mb : Str → Option Value) (h : Heap), (K w.params).In h → Top q lz mean mg mb h → ∀ t ∈ tabs, CodeHd h t.1 t.2.1 ∧ h.get? t.2.1 = some (tabObj #[]))
  (F : ∀ (w : World) (mg : Str → Option Value) (fa : Addr) (h : Heap), (K w.params).In h → h.Ns mainGlobals mg → mg d.name = some (.ref fa) →
   ∃ fd : FuncData, (∀ (s : Shared) (u : Value), BindsTo s fd ⟨[u], []⟩ [(x, u)]) ∧
    ∀ base : Heap, (K w.params).In base → base.Ns mainGlobals mg → (∀ t ∈ tabs, LamB mg base t.1 t.2.1) → FnOk l.prog w (K w.params) mg base (CX w) k fa fd [x] (sp w))
  (hsp : ∀ (w : World) (H : Hp) (a : Addr) (ns : List Int), ns.length ≤ n → (∀ t ∈ tabs, H t.2.1 = some (.tbl t.2.2)) → SqL (K w.params) H a (ns.map V.int) → sp w [.ref a] H (fun v _ => v = .bl true) fun _ _ _ => False)
  (hCX : ∀ (w : World) (H : Hp) (s : Shared) (e : Value) (s' : Shared), CX w [] H s (fun _ _ _ => False) e s' → False) (hx : x = lawS := by rfl) :
  PySem.W.WalkO q loose XP YP l.row.toRowW d [] (fun f vs => PySem.call f vs) := by
 refine Att.attach_call hn hdf fun w s₀ s₁ mg mb fa o pm cd doc a vs ns G Y ho hd hcd hmg hobj hints hlen hg => ?_
 have KX := hY w _ Y
 obtain ⟨fd, hb, hF⟩ := F w mg fa _ KX G.T.g hmg
 exact law_callT KX G.T.g G.T.b G.T.builtins G.T.nolimit hg hobj hints (Nat.le_trans hlen hn2) hr hnd (hT w _ _ mg mb _ KX G.T) (hKt w) G.T.bmain hF hb (fun H hO hS => hsp w H a ns hlen hO hS) (fun H e s' => hCX w H s₁ e s') hx
def spMT (K : PySem.W.Frag) (cls : Nat → Addr) (tabs : Tabs) (F : List Dt → M Dt) : Sp := fun vs H Q E => (∀ t ∈ tabs, H t.2.1 = some (.tbl t.2.2)) ∧ spM K cls F vs H Q E
def spLawT (K : PySem.W.Frag) (tabs : Tabs) : Sp := fun vs H Q E => (∀ t ∈ tabs, H t.2.1 = some (.tbl t.2.2)) ∧ spLaw K vs H Q E
section
variable {P : Program} {w : World} {K : PySem.W.Frag} {mg : Str → Option Value} {base : Heap} {cls : Nat → Addr}
theorem law_okT {f : Addr} {fd : FuncData} {k : Nat} {x : Str} {G : List Dt → M Dt} {tabs : Tabs} (h : FnOk P w K mg base (CX1 P w) k f fd [x] (spMT K cls tabs G)) (hG : ∀ ns : List Int, ns.length ≤ 63 → G [.lst (ns.map Dt.int)] = .ok (.bl true)) : FnOk P w K mg base (CX1 P w) k f fd [x] (spLawT K tabs) := by
 refine h.imp ?_
 intro vs H Q E ⟨ht, a, ns, e, hS, q⟩
 subst e
 refine ⟨ht, [], [.lst (ns.map Dt.int)], (fun a z => nomatch z), .cons (rep_script ?_) .nil, ⟨⟨by simpa using (show ns.length ≤ 10000 by have := hS.2; omega), sms_of fun d hd => ?_⟩, trivial⟩, ?_⟩
 ·have e : hid H [] = H := by funext b; unfold hid; simp
  rw [e]
  exact hS.1
 ·obtain ⟨n, _, rfl⟩ := List.mem_map.mp hd
  trivial
 ·rw [hG ns hS.2]
  intro v H' _ r _
  simp only [Rep] at r
  rw [r]
  exact q H'
end
end L2
namespace L2
open PySem PySem.Spec
theorem siOwner : Manifest.owners.lookup (String.ofList ['r', 'o', 't', 'a', 'r', 'e', 't', 'i', '_', 't', 'e', 's'].reverse) = some Manifest.sig_set_iterator := by kernel_rfl
theorem seOwner : Manifest.owners.lookup (String.ofList ['t', 'e', 's'].reverse) = some Manifest.sig_set := by kernel_rfl
theorem siNext : Slot "set_iterator" "__next__" "set_iterator.__next__" := by
 refine .of (owner := "set_iterator") (n := "__next__") ?_ ?_ ?_ ?_ ?_ ?_
 ·rw [typeLookup_type, builtinLookup_eq_fast]
  kernel_rfl
 ·decide +kernel
 ·decide +kernel
 ·decide +kernel
 ·first
  | exact .inl (by decide +kernel)
  | exact .inr (by decide +kernel)
 ·rw [isSubtype_type]
  kernel_rfl
theorem seIter : Slot "set" "__iter__" "set.__iter__" := by
 refine .of (owner := "set") (n := "__iter__") ?_ ?_ ?_ ?_ ?_ ?_
 ·rw [typeLookup_type, builtinLookup_eq_fast]
  kernel_rfl
 ·decide +kernel
 ·decide +kernel
 ·decide +kernel
 ·first
  | exact .inl (by decide +kernel)
  | exact .inr (by decide +kernel)
 ·rw [isSubtype_type]
  kernel_rfl
theorem siNextE : entryFor table "set_iterator.__next__" = some Builtin.«set_iterator.__next__» := by
 apply entryFor_of_tree
 kernel_rfl
theorem seIterE : entryFor table "set.__iter__" = some Builtin.«frozenset.__iter__» := by
 apply entryFor_alias (id' := "frozenset.__iter__")
 ·kernel_rfl
 ·first
  | rfl
  | decide +kernel
  | (unfold String.splitOn; simp +decide [String.splitOnAux])
 ·decide +kernel
 ·kernel_rfl
theorem siNextA (a : Value) : argsOk "set_iterator.__next__" ⟨[a], []⟩ := by
 unfold argsOk
 rw [signature?_of (id := "set_iterator.__next__") (n := ['_', '_', 't', 'x', 'e', 'n', '_', '_']) (o := ['r', 'o', 't', 'a', 'r', 'e', 't', 'i', '_', 't', 'e', 's']) (by kernel_rfl) siOwner]
 kernel_rfl
theorem seIterA (a : Value) : argsOk "set.__iter__" ⟨[a], []⟩ := by
 unfold argsOk
 rw [signature?_of (id := "set.__iter__") (n := ['_', '_', 'r', 'e', 't', 'i', '_', '_']) (o := ['t', 'e', 's']) (by kernel_rfl) seOwner]
 kernel_rfl
theorem siIter : Slot "set_iterator" "__iter__" "set_iterator.__iter__" := by
 refine .of (owner := "set_iterator") (n := "__iter__") ?_ ?_ ?_ ?_ ?_ ?_
 ·rw [typeLookup_type, builtinLookup_eq_fast]
  kernel_rfl
 ·decide +kernel
 ·decide +kernel
 ·decide +kernel
 ·first
  | exact .inl (by decide +kernel)
  | exact .inr (by decide +kernel)
 ·rw [isSubtype_type]
  kernel_rfl
theorem siIterE : entryFor table "set_iterator.__iter__" = some Builtin.«dict_keyiterator.__iter__» := by
 apply entryFor_alias (id' := "dict_keyiterator.__iter__")
 ·kernel_rfl
 ·first
  | rfl
  | decide +kernel
  | (unfold String.splitOn; simp +decide [String.splitOnAux])
 ·decide +kernel
 ·kernel_rfl
theorem siIterA (a : Value) : argsOk "set_iterator.__iter__" ⟨[a], []⟩ := by
 unfold argsOk
 rw [signature?_of (id := "set_iterator.__iter__") (n := ['_', '_', 'r', 'e', 't', 'i', '_', '_']) (o := ['r', 'o', 't', 'a', 'r', 'e', 't', 'i', '_', 't', 'e', 's']) (by kernel_rfl) siOwner]
 kernel_rfl
theorem seLen : typeLookup (.type "set") "__len__" = pure (some (.builtin "set.__len__")) := by
 rw [typeLookup_type, builtinLookup_eq_fast]
 kernel_rfl
theorem seSub : isSubtype (.type "set") (.type "set") = pure true := by
 rw [isSubtype_type]
 kernel_rfl
theorem erase_perm {α : Type} : ∀ {l : List α} {i : Nat} (h : i < l.length), (l[i] :: l.eraseIdx i).Perm l
 | x :: l, 0, _ => .refl _
 | x :: l, i + 1, h => by
  have hi : i < l.length := by simpa using h
  rw [List.getElem_cons_succ, List.eraseIdx_cons_succ]
  exact (List.Perm.swap ..).trans ((erase_perm hi).cons x)
theorem pick_go {α : Type} (next : Nat → Nat) : ∀ (n k : Nat) (left : List α) (out : Array α), left.length = n → (pickOrder.go next n k left out).toList.Perm (out.toList ++ left)
 | 0, k, left, out, h => by
  rw [List.length_eq_zero_iff.mp h, List.append_nil]
  exact .refl _
 | n + 1, k, left, out, h => by
  unfold pickOrder.go
  have hlt : next k % left.length < left.length := Nat.mod_lt _ (by omega)
  rw [List.getElem?_eq_getElem hlt]
  dsimp only
  refine (pick_go next n (k + 1) _ _ (by rw [List.length_eraseIdx, if_pos hlt]; omega)).trans ?_
  rw [Array.toList_push, List.append_assoc]
  refine List.Perm.append_left _ ?_
  exact erase_perm hlt
theorem pick_perm {α : Type} (next : Nat → Nat) (xs : Array α) : (pickOrder next xs).toList.Perm xs.toList := by
 have := pick_go next xs.size 0 xs.toList #[] (by simp)
 simpa [pickOrder] using this
theorem wpAny_choose' {M : Model} {A : Around} {E : Value → Shared → Prop} {src : Source} {n : Nat} {s : Shared} {Q : Nat → Shared → Prop} (hn : 0 < n) (h : ∀ i, i < n → ∀ d, Q i { s with drawn := d }) : wpAny M A (choose src n) Q E s :=
 fun _ _ _ => ⟨by omega, h _ (Nat.mod_lt _ hn) _⟩
theorem drawOrder_any {α : Type} {M : Model} {A : Around} {E : Value → Shared → Prop} : ∀ (n : Nat) (xs : List α) (s : Shared) (Q : List α → Shared → Prop), xs.length = n → (∀ ys d, ys.Perm xs → Q ys { s with drawn := d }) → wpAny M A (drawOrder n xs) Q E s
 | 0, xs, s, Q, h, q => by
  rw [List.length_eq_zero_iff.mp h] at q ⊢
  exact wpAny_pure (q [] s.drawn (.refl _))
 | n + 1, [], s, Q, h, q => by cases h
 | n + 1, x :: xs, s, Q, h, q => by
  unfold drawOrder
  refine wpAny_bind (wpAny_choose' (by simp) fun i hi d => ?_)
  rw [List.getElem?_eq_getElem hi]
  dsimp only
  refine wpAny_bind (drawOrder_any n _ _ _ (by rw [List.length_eraseIdx, if_pos hi]; simp at h ⊢; omega) fun ys d' hp => wpAny_pure ?_)
  exact q _ d' ((hp.cons _).trans (erase_perm hi))
theorem lay_led (t : SetTable) (es : Array (Int × Value)) (h : Int) (x : Value) : (layNew t es h x).2.1.led = t.led ∧ ((layNew t es h x).2.1.plain = true → t.plain = true) := by
 unfold layNew
 split
 ·dsimp only
  unfold SetTable.orStandIn
  split
  ·exact ⟨rfl, id⟩
  ·exact ⟨rfl, fun z => by cases z⟩
 ·exact ⟨rfl, fun z => by cases z⟩
theorem relay_led (t : SetTable) (es : Array (Int × Value)) (n : Nat) : (relayAll t es n).2.1.led = t.led ∧ ((relayAll t es n).2.1.plain = true → t.plain = true) := by
 unfold relayAll
 split
 ·rename_i t' order e
  dsimp only
  split
  ·dsimp only
   unfold SetTable.relaid SetTable.laid at e
   simp only [Option.bind_eq_bind, Option.bind_eq_some_iff, Option.pure_def, Option.some.injEq] at e
   obtain ⟨_, _, e⟩ := e
   injection e with e1 e2
   subst e1
   exact ⟨rfl, id⟩
  ·exact ⟨rfl, fun z => by cases z⟩
 ·exact ⟨rfl, fun z => by cases z⟩
abbrev stO (es : Array (Int × Value)) (ep : Nat) (t : SetTable) : Obj := { cls := .type "set", dict := none, data := .set es ep t }
section
variable {prog : Program} {w : World} {A : Around} {E : Value → Shared → Prop} {s : Shared} {K : Type} [DecidableEq K] {knd : KeyKind prog w K}
theorem addT {a : Addr} {es : Array (Int × Value)} {ep : Nat} {t : SetTable} {k : K} {x : Value} {Q : Bool → Shared → Prop} (hkey : knd.is k x = true) (hsc : x.scannable = true) (hbv : hashByValue 8 x = pure false)
  (ho : s.heap.get? a = some (stO es ep t)) (hel : ElemsOf knd es.toList) (hb : es.size + 1 < scanBound) (hf : t.fits es.size = true) (hpl : 1 ≤ es.size → t.plain = false)
  (h : ∀ (r : Bool) (h' : Heap) (es' : Array (Int × Value)) (ep' : Nat) (t' : SetTable), Heap.SameBut a s.heap h' → h'.get? a = some (stO es' ep' t') → ((es' = es ∧ ∃ e ∈ es.toList, knd.is k e.2 = true) ∨ (es'.toList.Perm (es.toList ++ [(knd.hash k, x)]) ∧ ∀ e ∈ es.toList, knd.is k e.2 = false)) →
   ElemsOf knd es'.toList → t'.fits es'.size = true → t'.led = t.led → (1 ≤ es'.size → t'.plain = false) → Q r { s with heap := h' }) :
  wpAny (model prog w) A (setAddHashed a x (knd.hash k)) Q E s := by
 have hd : (stO es ep t).data = .set es ep t := rfl
 unfold setAddHashed
 refine wpAny_holding ?_
 unfold setAddHashedIn
 refine wpAny_bind (wpAny_setState_of ho hd hf ?_)
 dsimp only
 rw [if_pos (byScan_of hsc (by omega) hel)]
 refine wpAny_bind ?_
 unfold setAddByScan
 refine wpAny_bind (wpAny_rule (wpAny_bind (wpAny_setScan_of hkey ho hd hf hel ?_)))
 cases hr : es.toList.findIdx? (fun e => knd.is k e.2) with
 | some j =>
  obtain ⟨hj, hpj, _⟩ := List.findIdx?_eq_some_iff_getElem.mp hr
  refine wpAny_pure (wpAny_pure ?_)
  exact h _ s.heap es ep t (.refl ..) ho (.inl ⟨rfl, _, List.getElem_mem hj, hpj⟩) hel hf rfl hpl
 | none =>
  have hno : ∀ e ∈ es.toList, knd.is k e.2 = false := fun e he => by simpa using List.findIdx?_eq_none_iff.mp hr e he
  have gw : ∀ (b : Bool) {s₁ : Shared} {Q' : Unit → Shared → Prop}, Q' () s₁ → wpAny (model prog w) A (match b with | true => rule "set.scan.the-table-gave-way" | false => pure ()) Q' E s₁ := fun b s₁ Q' q => by
   cases b
   ·exact wpAny_pure q
   ·exact wpAny_rule q
  have pm := layNew_perm t es (knd.hash k) x
  have ft := layNew_fits t es (knd.hash k) x
  have ld := lay_led t es (knd.hash k) x
  generalize layNew t es (knd.hash k) x = L at pm ft ld ⊢
  obtain ⟨es1, t1, wd, gv⟩ := L
  dsimp only at pm ft ld ⊢
  rw [Array.toList_push] at pm
  have sz : es1.size = es.size + 1 := by rw [← Array.length_toList, pm.length_eq]; simp
  have el1 : ElemsOf knd es1.toList := (hel.push hkey hsc).perm pm
  refine wpAny_bind (gw _ ?_)
  have tail : ∀ t2 : SetTable, t2.fits es1.size = true → t2.led = t.led → t2.plain = false → wpAny (model prog w) A (do
    storeSet a es1 t2
    if (!wd && t2.tooFull) = true then do
      (match (relayAll t2 es1 (SetTable.grown es1.size)).2.2 with | true => rule "set.scan.the-table-gave-way" | false => pure ())
      storeSet a (relayAll t2 es1 (SetTable.grown es1.size)).1 (relayAll t2 es1 (SetTable.grown es1.size)).2.1
      pure (some true)
     else pure (some true)) (fun r s' => wpAny (model prog w) A (match r with | some added => pure added | none => setAddHashedIn a x (knd.hash k) 99999) Q E s') E s := by
   intro t2 f2 l2 p2
   have pb : es1.size < scanBound := by omega
   refine wpAny_bind (wpAny_storeSet_of ho hd ?_ (fits_of_scanBound pb))
   have o1 : ∃ ep1, (s.heap.update a (Obj.putSet es1 t2)).get? a = some (stO es1 ep1 t2) := ⟨_, Heap.get?_update_self _ ho rfl⟩
   obtain ⟨ep1, o1⟩ := o1
   have sb1 := Heap.SameBut.update s.heap a (Obj.putSet es1 t2)
   split
   ·have rp := relayAll_perm t2 es1 (SetTable.grown es1.size)
    have rf := relayAll_fits t2 es1 (SetTable.grown es1.size)
    have rl := relay_led t2 es1 (SetTable.grown es1.size)
    generalize relayAll t2 es1 (SetTable.grown es1.size) = Rl at rp rf rl ⊢
    obtain ⟨es2, t3, gv2⟩ := Rl
    dsimp only at rp rf rl ⊢
    have sz2 : es2.size = es1.size := by rw [← Array.length_toList, rp.length_eq, Array.length_toList]
    refine wpAny_bind (gw _ ?_)
    refine wpAny_bind (wpAny_storeSet_of o1 rfl ?_ (fits_of_scanBound (by omega)))
    obtain ⟨ep2, o2⟩ : ∃ ep2, ((s.heap.update a (Obj.putSet es1 t2)).update a (Obj.putSet es2 t3)).get? a = some (stO es2 ep2 t3) := ⟨_, Heap.get?_update_self _ o1 rfl⟩
    refine wpAny_pure (wpAny_pure ?_)
    refine h _ _ es2 ep2 t3 (sb1.trans (Heap.SameBut.update _ a _)) o2 (.inr ⟨rp.trans pm, hno⟩) (el1.perm rp) rf (rl.1.trans l2) fun _ => ?_
    cases z : t3.plain with
    | false => rfl
    | true => rw [rl.2 z] at p2; cases p2
   ·refine wpAny_pure (wpAny_pure ?_)
    exact h _ _ es1 ep1 t2 sb1 o1 (.inr ⟨pm, hno⟩) el1 f2 l2 fun _ => p2
  split
  ·refine wpAny_bind ?_
   rw [hbv]
   refine wpAny_pure ?_
   exact tail { t1 with plain := false } (SetTable.fits_plain_off ft) ld.1 rfl
  ·rename_i np
   refine wpAny_bind (wpAny_pure ?_)
   exact tail t1 ft ld.1 (by simpa using np)
end
end L2
namespace L2
open PySem PySem.Spec PyProof.Rows PySem.W
theorem dup_le' {α : Type} [DecidableEq α] (l : List α) (n : Nat) (h : l.length ≤ n) : l.eraseDups.length ≤ n := Nat.le_trans (dup_le l.length l rfl) h
theorem paired_perm {α β : Type} {R : α → β → Prop} : ∀ {l l' : List β}, l.Perm l' → ∀ {ks : List α}, Paired R ks l → ∃ ks', Paired R ks' l' ∧ ks'.Perm ks
 | _, _, .nil, _, p => ⟨_, p, .refl _⟩
 | _, _, .cons x h, _, .cons r t => by
  obtain ⟨ks', h1, h2⟩ := paired_perm h t
  exact ⟨_, .cons r h1, h2.cons _⟩
 | _, _, .swap x y l, _, .cons r1 (.cons r2 t) => ⟨_, .cons r2 (.cons r1 t), .swap ..⟩
 | _, _, .trans h1 h2, _, p => by
  obtain ⟨ks1, a1, a2⟩ := paired_perm h1 p
  obtain ⟨ks2, b1, b2⟩ := paired_perm h2 a1
  exact ⟨ks2, b1, b2.trans a2⟩
theorem paired_snoc1 {α β : Type} {R : α → β → Prop} : ∀ {ks : List α} {l : List β}, Paired R ks l → ∀ {k : α} {x : β}, R k x → Paired R (ks ++ [k]) (l ++ [x])
 | _, _, .nil, _, _, r => .cons r .nil
 | _, _, .cons r t, _, _, r' => .cons r (paired_snoc1 t r')
theorem paired_mem {α β : Type} {R : α → β → Prop} : ∀ {ks : List α} {l : List β}, Paired R ks l → ∀ {x : β}, x ∈ l → ∃ k ∈ ks, R k x
 | _, _, .cons r t, x, h => by
  rcases List.mem_cons.mp h with rfl | h
  ·exact ⟨_, List.mem_cons_self, r⟩
  ·obtain ⟨k, hk, rk⟩ := paired_mem t h
   exact ⟨k, List.mem_cons_of_mem _ hk, rk⟩
theorem paired_memL {α β : Type} {R : α → β → Prop} : ∀ {ks : List α} {l : List β}, Paired R ks l → ∀ {k : α}, k ∈ ks → ∃ x ∈ l, R k x
 | _, _, .cons r t, x, h => by
  rcases List.mem_cons.mp h with rfl | h
  ·exact ⟨_, List.mem_cons_self, r⟩
  ·obtain ⟨k, hk, rk⟩ := paired_memL t h
   exact ⟨k, List.mem_cons_of_mem _ hk, rk⟩
section
variable {prog : Program} {w : World} {K : Type} [DecidableEq K] (knd : KeyKind prog w K)
def SetX (h : Heap) (a : Addr) (ks : List K) (led : Bool) : Prop :=
 ∃ es ep t kl, h.get? a = some (stO es ep t) ∧ ElemsOf knd es.toList ∧ Paired (fun k (e : Int × Value) => knd.is k e.2 = true) kl es.toList ∧ kl.Perm ks.eraseDups ∧ es.size < scanBound ∧ t.fits es.size = true ∧ t.led = led ∧ (1 ≤ es.size → t.plain = false)
end
section
variable {prog : Program} {w : World} {A : Around} {E : Value → Shared → Prop} {s : Shared} {K : Type} [DecidableEq K] {knd : KeyKind prog w K}
theorem SetX.at {h h' : Heap} {a : Addr} {ks : List K} {led : Bool} (x : SetX knd h a ks led) (k : ∀ o, h.get? a = some o → h'.get? a = some o) : SetX knd h' a ks led := by
 obtain ⟨es, ep, t, kl, ho, r⟩ := x
 exact ⟨es, ep, t, kl, k _ ho, r⟩
theorem SetX.size {h : Heap} {a : Addr} {ks : List K} {led : Bool} (x : SetX knd h a ks led) : ∃ o, h.get? a = some o ∧ o.cls = .type "set" := by
 obtain ⟨es, ep, t, kl, ho, r⟩ := x
 exact ⟨_, ho, rfl⟩
theorem addX {a : Addr} {ks : List K} {led : Bool} {k : K} {x : Value} {Q : Bool → Shared → Prop} (hkey : knd.is k x = true) (hsc : x.scannable = true) (hbv : hashByValue 8 x = pure false) (hS : SetX knd s.heap a ks led) (hb : ks.eraseDups.length + 1 < scanBound)
  (h : ∀ (r : Bool) (h' : Heap), Heap.SameBut a s.heap h' → SetX knd h' a (ks ++ [k]) led → Q r { s with heap := h' }) : wpAny (model prog w) A (setAddHashed a x (knd.hash k)) Q E s := by
 obtain ⟨es, ep, t, kl, ho, hel, hp, pm, hsz, hf, hl, hpl⟩ := hS
 have len : es.size = ks.eraseDups.length := by
  rw [← pm.length_eq, ← Array.length_toList]
  exact hp.length.symm
 refine addT hkey hsc hbv ho hel (by omega) hf hpl fun r h' es' ep' t' sb ho' cs el' ft' ld' pl' => h r h' sb ?_
 rcases cs with ⟨rfl, e, he, hk⟩ | ⟨pe, hno⟩
 ·obtain ⟨k', hk', r'⟩ := paired_mem hp he
  have := knd.inj _ _ _ hk r'
  subst this
  have hm : k ∈ ks := by
   have := pm.mem_iff.mp hk'
   simpa using this
  have ed : (ks ++ [k]).eraseDups = ks.eraseDups := by
   rw [List.eraseDups_append]
   have : [k].removeAll ks = [] := by simp [List.removeAll, hm]
   rw [this]
   simp
  exact ⟨es', ep', t', kl, ho', el', hp, by rw [ed]; exact pm, hsz, ft', ld'.trans hl, pl'⟩
 ·have hm : k ∉ ks := fun z => by
   have : k ∈ kl := pm.mem_iff.mpr (by simpa using z)
   obtain ⟨e, he, hk⟩ := paired_memL hp this
   rw [hno e he] at hk
   cases hk
  have ed : (ks ++ [k]).eraseDups = ks.eraseDups ++ [k] := by
   rw [List.eraseDups_append]
   have : [k].removeAll ks = [k] := by simp [List.removeAll, hm]
   rw [this]
   rfl
  have hp2 : Paired (fun k (e : Int × Value) => knd.is k e.2 = true) (kl ++ [k]) (es.toList ++ [(knd.hash k, x)]) := paired_snoc1 hp hkey
  obtain ⟨kl', a1, a2⟩ := paired_perm pe.symm hp2
  have sz' : es'.size = es.size + 1 := by rw [← Array.length_toList, pe.length_eq]; simp
  exact ⟨es', ep', t', kl', ho', el', a1, by rw [ed]; exact a2.trans (pm.append_right _), by omega, ft', ld'.trans hl, pl'⟩
end
section
variable {prog : Program} {w : World} {A : Around} {R : Result → Shared → Prop} {I S : Addr} {fp wr : List Addr} {St : Nat → Heap → Prop} {Kt : Type} [DecidableEq Kt] {knd : KeyKind prog w Kt} {led : Bool}
theorem set_fillX {items : Array Value} {ks0 ks : List Kt} (hk : ∀ (i : Nat) (v : Value), items[i]? = some v → ∃ k, ks[i]? = some k ∧ knd.is k v = true ∧ v.scannable = true ∧ hashByValue 8 v = pure false)
  (W : Walks prog w A.in1 I fp wr items.size (fun i v => items[i]? = some v) St) (hSf : S ∉ fp) (hn : ks.length = items.size) (hb : ks0.length + items.size + 1 < scanBound) :
  ∀ (m i : Nat) (s : Shared), items.size - i = m → i ≤ items.size → St i s.heap → SetX knd s.heap S (ks0 ++ ks.take i) led →
   (∀ h' tk, (∀ b o, b ≠ S → b ∉ wr → s.heap.get? b = some o → h'.get? b = some o) → SetX knd h' S (ks0 ++ ks) led → R (.ok (.ret .none)) { s with heap := h', toks := tk }) →
   codeAny (model prog w) A (.builtin "set.update.loop" ⟨[.ref S, .ref I], []⟩) R s := by
 have hSw : S ∉ wr := fun h => hSf (W.sub _ h)
 intro m
 induction m with
 | zero =>
  intro i s hm hi hst hS hR
  obtain rfl : i = items.size := by omega
  refine codeAny_builtin PyProof.Rows.F.entry_set_update_loop ?_
  rw [Around.under_plainId PyProof.Rows.F.plain_set_update_loop _]
  show wpAny _ A.in1 (pyNext (.ref I) >>= _) _ _ s
  refine wpAny_bind (W.done s _ _ hst fun h' tk k' => ?_)
  rw [← hn, List.take_length] at hS
  exact wpAny_pure (hR h' tk (fun b o _ hb e => k' b o hb e) (hS.at fun o e => k' S _ hSw e))
 | succ m ih =>
  intro i s hm hi hst hS hR
  have hlt : i < items.size := by omega
  refine codeAny_builtin PyProof.Rows.F.entry_set_update_loop ?_
  rw [Around.under_plainId PyProof.Rows.F.plain_set_update_loop _]
  show wpAny _ A.in1 (pyNext (.ref I) >>= _) _ _ s
  refine wpAny_bind (W.item i s _ _ hlt hst fun v h1 tk1 hP hst1 k1 => ?_)
  obtain ⟨k, hki, hkv, hsc, hbv⟩ := hk i v hP
  have hS1 : SetX knd h1 S (ks0 ++ ks.take i) led := hS.at fun o e => k1 S _ hSw e
  show wpAny _ A.in1 (holding [v] (setAdd S v) >>= _) _ _ _
  refine wpAny_bind (wpAny_holding ?_)
  unfold setAdd
  refine wpAny_holding (wpAny_bind (knd.pyHash hkv ?_))
  have hl : (ks0 ++ ks.take i).eraseDups.length ≤ ks0.length + i := dup_le' _ _ (by rw [List.length_append, List.length_take]; omega)
  refine addX (s := { s with heap := h1, toks := _ }) hkv hsc hbv hS1 (by omega) fun _ h2 hs2 hS2 => ?_
  have ht : ks.take (i + 1) = ks.take i ++ [k] := by rw [List.take_add_one, hki]; rfl
  rw [List.append_assoc, ← ht] at hS2
  refine wpAny_pure ⟨plainId_quiet PyProof.Rows.F.plain_set_update_loop _, ih (i + 1) _ (by omega) hlt (W.frame _ _ _ hst1 fun b hb o e => ?_) hS2 fun h3 tk3 k3 hS4 => ?_⟩
  ·exact (hs2.2 b (fun z => hSf (z ▸ hb))).trans e
  ·exact hR h3 tk3 (fun b o hbS hbw e => k3 b o hbS hbw ((hs2.2 b hbS).trans (k1 b o hbw e))) hS4
end
abbrev ledW (w : World) : Bool := !w.params.followText "set-order"
section
variable {prog : Program} {w : World} {A : Around} {E : Value → Shared → Prop} {s : Shared} {Kt : Type} [DecidableEq Kt] {knd : KeyKind prog w Kt}
theorem set_newX (a : Value) {Q₁ : Value → Shared → Prop} (h : Q₁ (.ref s.heap.objs.size) { s with heap := s.heap.push (setO (ledW w)) }) :
  codeAny (model prog w) A (.call (.builtin "set.__new__") ⟨[.type "set", a], []⟩) (wants Q₁ E) s := by
 refine codeAny_of_tree ?_
 show wpAny _ A.in1 (do checkBuiltinCall "set.__new__" ⟨[.type "set", a], []⟩; again (.builtin "set.__new__" ⟨[.type "set", a], []⟩)) _ _ s
 refine wpAny_bind (wpAny_of_eq (PySem.F.newCall_set_1 a) (wpAny_pure ⟨plainId_quiet PySem.F.plain_set_new _, ?_⟩))
 refine codeAny_builtin PySem.F.entry_set_new ?_
 rw [Around.under_plainId PySem.F.plain_set_new _]
 unfold Builtin.«set.__new__»
 unfold Builtin.Frozenset.newClass
 have hsub := seSub
 obtain ⟨hp, g, d, tk, os⟩ := s
 dsimp only
 wp_walk
 refine wpAny_askSetting (wpAny_pure ?_)
 dsimp only
 simp only [newObj]
 refine wpAny_bind (wpAny_alloc (wpAny_pure ?_))
 exact wpAny_pure h
theorem set_of_listX {l : Addr} {items : Array Value} {ks : List Kt} {Q : Value → Shared → Prop} (hh : A.handled = none) (hl : s.heap.IsList l items)
  (hk : ∀ (i : Nat) (v : Value), items[i]? = some v → ∃ k, ks[i]? = some k ∧ knd.is k v = true ∧ v.scannable = true ∧ hashByValue 8 v = pure false) (hn : ks.length = items.size) (hb : items.size + 1 < scanBound)
  (h : ∀ (h' : Heap) (tk : Nat), SetX knd h' s.heap.objs.size ks (ledW w) → (∀ b o, s.heap.get? b = some o → h'.get? b = some o) → Q (.ref s.heap.objs.size) { s with heap := h', toks := tk }) :
  wpAny (model prog w) A (call (.type "set") [.ref l]) Q E s := by
 obtain ⟨c, tl, hmro⟩ := PySem.F.called_set.mro
 have hmade := PySem.F.called_set.made
 have hsub := PySem.F.called_set.sub
 refine wpAny_call (codeAny_of_tree ?_)
 show wpAny _ _ (callAny (.type "set") _) _ _ _
 refine wpAny_pure ⟨Code.quiet_builtin _ (by decide +kernel), codeAny_builtin PySem.F.entry_type_call ?_⟩
 rw [Around.under_plain (weight_type_call_type "set" [.ref l] []) rfl]
 have h1 := PySem.F.called_set.notType
 have h2 := PySem.F.called_set.canCreate
 have hct := PySem.F.typeCall_set_1 (.ref l)
 repeat (any_goals (first | assumption | wp_step))
 refine codeAny_mono (set_newX (.ref l) (E := E) (Q₁ := fun obj s1 => obj = .ref s.heap.objs.size ∧ s1 = { s with heap := s.heap.push (setO (ledW w)) }) ⟨rfl, rfl⟩) fun r s1 hr => ?_
 match r, hr with
 | .error e, hr => exact hr
 | .ok (.ret obj), hr =>
  obtain ⟨rfl, rfl⟩ := hr
  have hS : (s.heap.push (setO (ledW w))).get? s.heap.objs.size = some (setO (ledW w)) := Heap.get?_push_size _ rfl
  have hT : Shared.TypeIs { s with heap := s.heap.push (setO (ledW w)) } (.ref s.heap.objs.size) "set" := ⟨_, hS, rfl⟩
  have hli := PySem.F.called_set.init.lookup
  have hbi := PySem.F.called_set.init.bind (.ref s.heap.objs.size)
  repeat (any_goals (first | assumption | wp_step))
  refine codeAny_mono (codeAny_call_builtin (R := wants (fun r s2 => r = .none ∧ ∃ h' tk, s2 = { s with heap := h', toks := tk } ∧ SetX knd h' s.heap.objs.size ks (ledW w) ∧ ∀ b o, s.heap.get? b = some o → h'.get? b = some o) E)
   PySem.F.called_set.init.plain PySem.F.entry_set_init (check_set_init_1 hT ?_)) fun r2 s2 hr2 => ?_
  ·obtain ⟨⟨oc, od, odt, os⟩, hol, hcl, nl, hdl⟩ := hl
   simp only at hcl hdl
   subst hcl hdl
   have hol1 : (s.heap.push (setO (ledW w))).get? l = some { cls := .type "list", dict := od, data := .seq items nl, slots := os } := Heap.get?_push_of_some _ hol
   have hl1 : (s.heap.push (setO (ledW w))).IsList l items := ⟨_, hol1, rfl, nl, rfl⟩
   have hsls := PySem.F.sub_list_set
   have hslf := PySem.F.sub_list_frozenset
   have hne : (Value.type "list" == Value.type "dict") = false := by decide
   have hlS : l < s.heap.objs.size := Heap.lt_size hol
   unfold Builtin.«set.__init__» noKeywords Builtin.Frozenset.updateFrom
   generalize hPI : pyIter = PI
   wp_walk
   subst hPI
   refine wpAny_pyIter_list hl1 (wpAny_bind (wpAny_runValue ?_))
   have hz : (s.heap.push (setO (ledW w))).objs.size = s.heap.objs.size + 1 := Heap.size_push _ _
   refine set_fillX (knd := knd) (ks0 := []) (led := ledW w) hk (Walks.list (by simp [hh]) (s.heap.push (setO (ledW w))).objs.size l (by rw [hz]; exact Nat.ne_of_lt (Nat.lt_succ_of_lt hlS)) items) (S := s.heap.objs.size) (by rw [hz]; simp only [List.mem_cons, List.not_mem_nil, or_false, not_or]; exact ⟨Nat.ne_of_lt (Nat.lt_succ_self _), (Nat.ne_of_lt hlS).symm⟩) hn (by simpa using hb) (items.size - 0) 0 _ rfl (Nat.zero_le _) ⟨⟨_, Heap.get?_push_size _ rfl, rfl, rfl⟩, hl1.push _⟩ ?_ fun h' tk hk' hS' => ?_
   ·exact ⟨#[], 0, _, [], Heap.get?_push_of_some _ hS, (fun e he => by simp at he), .nil, .nil, by decide, rfl, rfl, fun z => absurd z (by simp)⟩
   ·refine wpAny_pure (wpAny_pure ⟨rfl, h', tk, rfl, hS', fun b o e => ?_⟩)
    have hb' := Heap.lt_size e
    exact hk' b o (Nat.ne_of_lt hb') (by rw [hz]; simp only [List.mem_cons, List.not_mem_nil, or_false]; exact Nat.ne_of_lt (Nat.lt_succ_of_lt hb')) (Heap.get?_push_of_some _ (Heap.get?_push_of_some _ e))
  ·match r2, hr2 with
   | .error e, hr2 => exact hr2
   | .ok (.ret r), hr2 =>
    obtain ⟨rfl, h', tk, rfl, hS', hk'⟩ := hr2
    repeat (any_goals (first | assumption | wp_step))
    exact h _ _ hS' hk'
end
def siO (first : Value) (i : Nat) (S : Addr) (n ep : Nat) : Obj := { cls := .type "set_iterator", data := .fields #[first, rawInt i, .ref S, rawInt n, rawInt ep] }
inductive ItM (w : World) (S : Addr) (es : Array (Int × Value)) (ep : Nat) (t : SetTable) (h : Heap) (T : Addr) : Value → Nat → List Value → Prop where
 | text (k i : Nat) (e : w.params.followText "set-order" = true) : ItM w S es ep t h T (rawInt k) i ((pickOrder (w.params.setOrder S ep) es).toList.map (·.2))
 | drawn (i : Nat) (pl : List Nat) (e : w.params.followText "set-order" = false) (np : t.plain = false) (h1 : 1 < es.size) (hT : h.get? T = some { cls := .type "tuple", data := .seq (pl.map fun (p : Nat) => rawInt p).toArray }) (hp : pl.Perm (List.range es.size)) : ItM w S es ep t h T (.ref T) i (pl.map fun p => (es[p]?.map (·.2)).getD .none)
 | few (k i : Nat) (e : w.params.followText "set-order" = false) (hl : t.led = true) (h1 : es.size ≤ 1) (hk : i = 0 → k = 0) (hk1 : i = 1 → ∃ j, t.place[0]? = some j ∧ k = j + 1) : ItM w S es ep t h T (rawInt k) i (es.toList.map (·.2))
structure ItS (w : World) (S : Addr) (es : Array (Int × Value)) (ep : Nat) (t : SetTable) (I T : Addr) (vs : List Value) (i : Nat) (h : Heap) : Prop where
 set : h.get? S = some (stO es ep t)
 fits : t.fits es.size = true
 it : ∃ first, h.get? I = some (siO first i S es.size ep) ∧ ItM w S es ep t h T first i vs
 ne : S ≠ I ∧ T ≠ I
 len : vs.length = es.size
theorem ItS.keep {w : World} {S : Addr} {es : Array (Int × Value)} {ep : Nat} {t : SetTable} {I T : Addr} {vs : List Value} {i : Nat} {h h' : Heap} (x : ItS w S es ep t I T vs i h) (k : ∀ b ∈ [S, I, T], ∀ o, h.get? b = some o → h'.get? b = some o) : ItS w S es ep t I T vs i h' := by
 obtain ⟨h1, h2, ⟨first, h3, h4⟩, h5, h6⟩ := x
 refine ⟨k S (by simp) _ h1, h2, ⟨first, k I (by simp) _ h3, ?_⟩, h5, h6⟩
 cases h4 with
 | text k' i e => exact .text k' i e
 | drawn i pl e np hs hT hp => exact .drawn i pl e np hs (k T (by simp) _ hT) hp
 | few k' i e hl hs hk hk1 => exact .few k' i e hl hs hk hk1
theorem ItS.step {w : World} {S : Addr} {es : Array (Int × Value)} {ep : Nat} {t : SetTable} {I T : Addr} {vs : List Value} {i j : Nat} {h h' : Heap} {first : Value} (x : ItS w S es ep t I T vs i h) (sb : ∀ b o, b ≠ I → h.get? b = some o → h'.get? b = some o) (hI : h'.get? I = some (siO first j S es.size ep)) (m : ∀ hT : (∀ o, h.get? T = some o → h'.get? T = some o), ItM w S es ep t h' T first j vs) : ItS w S es ep t I T vs j h' :=
 ⟨sb _ _ x.ne.1 x.set, x.fits, ⟨first, hI, m fun o e => sb _ _ x.ne.2 e⟩, x.ne, x.len⟩
theorem below0 {xs : Array Nat} : SetTable.below xs 0 = 0 := by
 have key : ∀ f lo hi, SetTable.below.go xs 0 f lo hi = lo ∨ True := fun _ _ _ => .inr trivial
 have go : ∀ (f : Nat) (hi : Nat), SetTable.below.go xs 0 f 0 hi = 0 := by
  intro f
  induction f with
  | zero => intro hi; rfl
  | succ f ih =>
   intro hi
   unfold SetTable.below.go
   split
   ·dsimp only
    rw [if_neg (by omega)]
    exact ih _
   ·rfl
 exact go _ _
theorem below1 {j : Nat} : SetTable.below #[j] (j + 1) = 1 := by
 unfold SetTable.below
 unfold SetTable.below.go
 simp
 unfold SetTable.below.go
 rfl
section
variable {prog : Program} {w : World} {A : Around} {E : Value → Shared → Prop} {s : Shared} {S I T : Addr} {es : Array (Int × Value)} {ep : Nat} {t : SetTable} {vs : List Value} {i : Nat}
theorem byText_is {Q : Bool → Shared → Prop} (q : Q (w.params.followText "set-order") s) : wpAny (model prog w) A setsByText Q E s := by
 unfold setsByText
 exact wpAny_bind (wpAny_askSetting (wpAny_pure q))
theorem place_one (hf : t.fits es.size = true) (h : es.size = 1) : ∃ j, t.place = #[j] := by
 unfold SetTable.fits at hf
 simp only [Bool.and_eq_true, beq_iff_eq, decide_eq_true_eq] at hf
 have hs : t.place.size = 1 := by have := hf.1; rw [h] at this; exact this
 exact ⟨t.place[0]'(by omega), Array.ext (by simpa using hs) fun i h1 h2 => by
  have : i = 0 := by simp at h2; omega
  subst this
  rfl⟩
theorem siItem {Q : Option Value → Shared → Prop} {v : Value} (x : ItS w S es ep t I T vs i s.heap) (hv : vs[i]? = some v)
  (hQ : ∀ h', ItS w S es ep t I T vs (i + 1) h' → (∀ b o, b ≠ I → s.heap.get? b = some o → h'.get? b = some o) → Q (some v) { s with heap := h' }) : wpAny (model prog w) A (pyNext (.ref I)) Q E s := by
 obtain ⟨h1, h2, ⟨first, h3, h4⟩, h5, h6⟩ := id x
 have hT : s.TypeIs (.ref I) "set_iterator" := ⟨_, h3, rfl⟩
 unfold pyNext
 refine wpAny_bind (wpAny_attempt (wpAny_callSpecial?_slot (name := Str.ofString "__next__") hT siNext (wpAny_call_entry siNext hT siNextE ?_ (siNextA _))))
 unfold Builtin.«set_iterator.__next__»
 refine wpAny_bind (wpAny_of_eq (a := (Value.ref I, [])) rfl ?_)
 dsimp only
 have hi : i < vs.length := (List.getElem?_eq_some_iff.mp hv).1
 refine wpAny_bind (wpAny_fieldsOf h3 rfl ?_)
 dsimp only [rawInt]
 refine wpAny_bind (wpAny_setEntries_of h1 rfl h2 ?_)
 rw [if_neg (by simp)]
 refine wpAny_bind (wpAny_pure ?_)
 cases h4 with
 | text k _ e =>
  dsimp only [rawInt]
  unfold setNext
  refine wpAny_bind ?_
  refine wpAny_bind (wpAny_setState_of h1 rfl h2 ?_)
  dsimp only
  refine wpAny_bind (byText_is ?_)
  rw [e, if_pos rfl]
  rw [if_neg (by simp)]
  refine wpAny_bind ?_
  unfold setWalk
  refine wpAny_bind (wpAny_setState_of h1 rfl h2 ?_)
  dsimp only
  refine wpAny_bind (byText_is ?_)
  rw [e, if_pos rfl]
  refine wpAny_bind (wpAny_askSetting (wpAny_pure (wpAny_pure ?_)))
  have hx : ∃ ee : Int × Value, (pickOrder (w.params.setOrder S ep) es)[i]? = some ee ∧ ee.2 = v := by
   rw [List.getElem?_map, Option.map_eq_some_iff] at hv
   obtain ⟨ee, z1, z2⟩ := hv
   exact ⟨ee, by simpa using z1, z2⟩
  obtain ⟨ee, hx, rfl⟩ := hx
  have hx' : (pickOrder (w.params.setOrder S ep) es)[((i : Nat) : Int).toNat]? = some ee := hx
  show wpAny _ _ (match (Option.map (fun e : Int × Value => (e.2, ((k : Nat) : Int).toNat)) (pickOrder (w.params.setOrder S ep) es)[((i : Nat) : Int).toNat]?) with | some (x, next) => _ | none => _) _ _ _
  rw [hx']
  dsimp only [Option.map]
  refine wpAny_bind (wpAny_setField_rec h3 (by simp) fun g0 q0 s0 => ?_)
  refine wpAny_bind (wpAny_setField_rec q0 (by simp) fun g1 q1 s1 => wpAny_pure ⟨_, rfl, wpAny_pure ?_⟩)
  exact hQ g1 (x.step (fun b o hb e => s1.extBut b o hb (s0.extBut b o hb e)) (first := rawInt k) q1 fun _ => .text k (i + 1) e) fun b o hb e => s1.extBut b o hb (s0.extBut b o hb e)
 | drawn _ pl e np hs hTT hp =>
  dsimp only [rawInt]
  have hvp : ∃ p, pl[i]? = some p ∧ (es[p]?.map (·.2)).getD .none = v := by
   rw [List.getElem?_map, Option.map_eq_some_iff] at hv
   exact hv
  obtain ⟨p, hp1, hp2⟩ := hvp
  have hpl : p < es.size := by
   have := hp.mem_iff.mp (List.mem_of_getElem? hp1)
   simpa using this
  have hee : es[p]? = some es[p] := by simp [hpl]
  rw [hee] at hp2
  unfold seqItems?
  refine wpAny_bind (wpAny_bind (wpAny_load hTT (wpAny_pure ?_)))
  have hpx : (pl.map fun (p : Nat) => rawInt p).toArray[((i : Nat) : Int).toNat]? = some (rawInt p) := by
   show (pl.map fun (p : Nat) => rawInt p).toArray[i]? = _
   simp [hp1]
  dsimp only
  rw [hpx]
  dsimp only [rawInt]
  unfold setNextDrawn
  refine wpAny_bind (wpAny_bind (wpAny_setState_of h1 rfl h2 ?_))
  dsimp only
  rw [if_neg (by simp)]
  have hee' : es[((p : Nat) : Int).toNat]? = some es[p] := hee
  rw [hee']
  refine wpAny_pure ?_
  refine wpAny_bind (wpAny_setField_rec h3 (by simp) fun g1 q1 s1 => wpAny_pure ⟨_, rfl, wpAny_pure ?_⟩)
  have hp2' : es[p].2 = v := hp2
  show Q (some es[p].2) _
  rw [hp2']
  exact hQ g1 (x.step (fun b o hb e => s1.extBut b o hb e) (first := .ref T) q1 fun kT => .drawn (i + 1) pl e np hs (kT _ hTT) hp) fun b o hb e => s1.extBut b o hb e
 | few k _ e hl hs hk hk1 =>
  dsimp only [rawInt]
  have hes : es.size = 1 := by
   have := h6
   rw [List.length_map, Array.length_toList] at hi
   omega
  have hi0 : i = 0 := by
   rw [List.length_map, Array.length_toList] at hi
   omega
  subst hi0
  obtain ⟨j, hj⟩ := place_one h2 hes
  have hk0 := hk rfl
  subst hk0
  unfold setNext
  refine wpAny_bind ?_
  refine wpAny_bind (wpAny_setState_of h1 rfl h2 ?_)
  dsimp only
  refine wpAny_bind (byText_is ?_)
  rw [e, if_neg (by simp)]
  split
  ·rename_i hd
   have hd' : (!t.plain && decide (es.size > 1)) = true := hd
   rw [hes] at hd'
   simp at hd'
  ·refine wpAny_bind (show wpAny (model prog w) A.in1 (if (!t.led && !es.isEmpty) = true then unsupported "set:maker-not-led" else pure ()) _ _ _ from ?_)
   rw [hl, if_neg (by simp)]
   refine wpAny_pure (wpAny_pure ?_)
   have hx : ∃ ee : Int × Value, es[0]? = some ee ∧ ee.2 = v := by
    rw [List.getElem?_map, Option.map_eq_some_iff] at hv
    obtain ⟨ee, z1, z2⟩ := hv
    exact ⟨ee, by simpa using z1, z2⟩
   obtain ⟨⟨eh, ev⟩, hx, rfl⟩ := hx
   have b0 : SetTable.below t.place ((0 : Nat) : Int).toNat = 0 := below0
   rw [b0, hx, hj]
   show wpAny _ _ (do
    setField (Value.ref I) 0 (Value.int ((j + 1 : Nat) : Int) 0)
    setField (Value.ref I) 1 (Value.int (((0 : Nat) : Int) + 1) 0)
    ret ev) _ _ _
   refine wpAny_bind (wpAny_setField_rec h3 (by simp) fun g0 q0 s0 => ?_)
   refine wpAny_bind (wpAny_setField_rec q0 (by simp) fun g1 q1 s1 => wpAny_pure ⟨_, rfl, wpAny_pure ?_⟩)
   exact hQ g1 (x.step (fun b o hb e => s1.extBut b o hb (s0.extBut b o hb e)) (first := rawInt (j + 1 : Nat)) q1 fun _ => .few (j + 1) 1 e hl hs (fun z => by cases z) fun _ => ⟨j, by rw [hj]; rfl, rfl⟩) fun b o hb e => s1.extBut b o hb (s0.extBut b o hb e)
theorem siEnd {Q : Option Value → Shared → Prop} (hh : A.handled = none) (x : ItS w S es ep t I T vs es.size s.heap)
  (hQ : ∀ h' tk, (∀ b o, b ≠ I → s.heap.get? b = some o → h'.get? b = some o) → Q none { s with heap := h', toks := tk }) : wpAny (model prog w) A (pyNext (.ref I)) Q E s := by
 obtain ⟨h1, h2, ⟨first, h3, h4⟩, h5, h6⟩ := id x
 have hT : s.TypeIs (.ref I) "set_iterator" := ⟨_, h3, rfl⟩
 have hh1 : A.in1.handled = none := hh
 have fin : ∀ (g : Heap) (q : g.get? I = s.heap.get? I ∨ True) (sb : ∀ b o, b ≠ I → s.heap.get? b = some o → g.get? b = some o) {vs' : Array Value}, g.get? I = some { cls := .type "set_iterator", dict := none, data := .fields vs', slots := #[] } → 2 < vs'.size →
   wpAny (model prog w) A.in1 (do
    setField (Value.ref I) 2 Value.none
    let e ← newExc (Value.type "StopIteration") []
    raiseNew e : Sem Fin) (fun fin s' => ∃ v, fin = Fin.done (Flow.ret v) ∧ wpAny (model prog w) A (pure (some v)) Q E s')
    (fun e s' => wpAny (model prog w) A (do
     let b ← isInstance e (Value.type "StopIteration")
     if b = true then pure none else throw e) Q E s') { s with heap := g } := by
  intro g _ sb vs' ho hz
  refine wpAny_bind (wpAny_setField_rec ho hz fun g1 q1 s1 => ?_)
  wp_walk using hh1
  simp only [raiseNew]
  refine wpAny_bind (wpAny_handled ?_)
  rw [hh1]
  refine wpAny_bind (wpAny_pure (wpAny_throw ?_))
  refine wpAny_bind (wpAny_isInstance (b := true) (T := "StopIteration") ⟨_, Heap.get?_push_size _ rfl, rfl⟩ isSubtype_stop ?_)
  refine wpAny_pure (hQ _ _ fun b o hb e => ?_)
  refine Heap.get?_push_of_some _ (Heap.get?_push_of_some _ ?_)
  exact s1.extBut b o hb (sb b o hb e)
 unfold pyNext
 refine wpAny_bind (wpAny_attempt (wpAny_callSpecial?_slot (name := Str.ofString "__next__") hT siNext (wpAny_call_entry siNext hT siNextE ?_ (siNextA _))))
 unfold Builtin.«set_iterator.__next__»
 refine wpAny_bind (wpAny_of_eq (a := (Value.ref I, [])) rfl ?_)
 dsimp only
 refine wpAny_bind (wpAny_fieldsOf h3 rfl ?_)
 dsimp only [rawInt]
 refine wpAny_bind (wpAny_setEntries_of h1 rfl h2 ?_)
 rw [if_neg (by simp)]
 refine wpAny_bind (wpAny_pure ?_)
 cases h4 with
 | text k _ e =>
  dsimp only [rawInt]
  unfold setNext
  refine wpAny_bind ?_
  refine wpAny_bind (wpAny_setState_of h1 rfl h2 ?_)
  dsimp only
  refine wpAny_bind (byText_is ?_)
  rw [e, if_pos rfl]
  rw [if_neg (by simp)]
  refine wpAny_bind ?_
  unfold setWalk
  refine wpAny_bind (wpAny_setState_of h1 rfl h2 ?_)
  dsimp only
  refine wpAny_bind (byText_is ?_)
  rw [e, if_pos rfl]
  refine wpAny_bind (wpAny_askSetting (wpAny_pure (wpAny_pure ?_)))
  have hn : (pickOrder (w.params.setOrder S ep) es)[((es.size : Nat) : Int).toNat]? = none := by
   rw [Array.getElem?_eq_none_iff]
   have := (pick_perm (w.params.setOrder S ep) es).length_eq
   simp only [Array.length_toList] at this
   show _ ≤ es.size
   exact Nat.le_of_eq this
  show wpAny _ _ (match (Option.map (fun e : Int × Value => (e.2, ((k : Nat) : Int).toNat)) (pickOrder (w.params.setOrder S ep) es)[((es.size : Nat) : Int).toNat]?) with | some (x, next) => _ | none => _) _ _ _
  rw [hn]
  exact fin s.heap (.inr trivial) (fun b o _ e => e) h3 (by simp)
 | drawn _ pl e np hs hTT hp =>
  dsimp only [rawInt]
  unfold seqItems?
  refine wpAny_bind (wpAny_bind (wpAny_load hTT (wpAny_pure ?_)))
  have hpx : (pl.map fun (p : Nat) => rawInt p).toArray[((es.size : Nat) : Int).toNat]? = none := by
   rw [Array.getElem?_eq_none_iff]
   have := hp.length_eq
   simp at this
   show _ ≤ es.size
   simp [this]
  dsimp only
  rw [hpx]
  dsimp only
  refine wpAny_bind (wpAny_setField_rec h3 (by simp) fun g0 q0 s0 => ?_)
  exact fin g0 (.inr trivial) (fun b o hb e => s0.extBut b o hb e) q0 (by simp)
 | few k _ e hl hs hk hk1 =>
  dsimp only [rawInt]
  unfold setNext
  refine wpAny_bind ?_
  refine wpAny_bind (wpAny_setState_of h1 rfl h2 ?_)
  dsimp only
  refine wpAny_bind (byText_is ?_)
  rw [e, if_neg (by simp)]
  split
  ·rename_i hd
   have hd' : (!t.plain && decide (es.size > 1)) = true := hd
   simp at hd'
   omega
  ·refine wpAny_bind (show wpAny (model prog w) A.in1 (if (!t.led && !es.isEmpty) = true then unsupported "set:maker-not-led" else pure ()) _ _ _ from ?_)
   rw [hl, if_neg (by simp)]
   refine wpAny_pure (wpAny_pure ?_)
   have b0 : es[SetTable.below t.place ((k : Nat) : Int).toNat]? = none := by
    rw [Array.getElem?_eq_none_iff]
    by_cases z : es.size = 0
    ·omega
    ·have z1 : es.size = 1 := by omega
     obtain ⟨j, hj, hkj⟩ := hk1 z1
     obtain ⟨j', hj'⟩ := place_one h2 z1
     rw [hj'] at hj
     have : j' = j := by simpa using hj
     subst this
     rw [hj', hkj]
     show es.size ≤ SetTable.below #[j'] (j' + 1)
     rw [below1]
     omega
   rw [b0]
   exact fin s.heap (.inr trivial) (fun b o _ e => e) h3 (by simp)
end
section
variable {prog : Program} {w : World} {A : Around} {E : Value → Shared → Prop} {s : Shared} {S I T : Addr} {es : Array (Int × Value)} {ep : Nat} {t : SetTable} {vs : List Value} {i : Nat}
theorem epoch_is {Q : Nat → Shared → Prop} (h1 : s.heap.get? S = some (stO es ep t)) (h2 : t.fits es.size = true) (q : Q ep s) : wpAny (model prog w) A (setEpoch S) Q E s := by
 unfold setEpoch
 exact wpAny_bind (wpAny_setState_of h1 rfl h2 (wpAny_pure q))
theorem seIterOk {Q : Value → Shared → Prop} (h1 : s.heap.get? S = some (stO es ep t)) (h2 : t.fits es.size = true) (hz : es.size < scanBound) (hl : w.params.followText "set-order" = false → t.led = true) (hp : 1 ≤ es.size → t.plain = false)
  (q : ∀ (I T : Addr) (vs : List Value) (h' : Heap) (d : Drawn), vs.Perm (es.toList.map (·.2)) → ItS w S es ep t I T vs 0 h' → s.heap.objs.size ≤ I → (T = S ∨ s.heap.objs.size ≤ T) → T < h'.objs.size → (∀ b o, s.heap.get? b = some o → h'.get? b = some o) → Q (.ref I) { s with heap := h', drawn := d }) :
  wpAny (model prog w) A (pyIter (.ref S)) Q E s := by
 have hT : s.TypeIs (.ref S) "set" := ⟨_, h1, rfl⟩
 have hS : S < s.heap.objs.size := Heap.lt_size h1
 refine wpAny_pyIter_slot hT seIter (wpAny_call_entry seIter hT seIterE ?_ (seIterA _))
 unfold Builtin.«frozenset.__iter__»
 unfold Builtin.Frozenset.slot0
 refine wpAny_bind (wpAny_bind (wpAny_of_eq (a := (Value.ref S, [])) rfl ?_))
 dsimp only
 refine wpAny_pure ?_
 unfold Builtin.Frozenset.sizeOf
 refine wpAny_bind (wpAny_bind (wpAny_setEntries_of h1 rfl h2 (wpAny_pure ?_)))
 refine wpAny_bind ?_
 unfold setDrawn
 refine wpAny_bind (wpAny_setState_of h1 rfl h2 ?_)
 dsimp only
 refine wpAny_bind (byText_is (wpAny_pure ?_))
 have easy : ∀ vs : List Value, vs.Perm (es.toList.map (·.2)) → (∀ h : Heap, ItM w S es ep t h S (rawInt ((0 : Nat) : Int)) 0 vs) → wpAny (model prog w) A.in1 (do
       let first ← pure (rawInt 0)
       let e ← setEpoch S
       let f ← newFields "set_iterator" [first, rawInt 0, Value.ref S, rawInt es.size, rawInt e]
       ret f : Sem Fin) (fun fin s' => ∃ v, fin = Fin.done (Flow.ret v) ∧ ∃ T' r, s'.TypeIs v T' ∧ typeLookup (Value.type T') (Str.ofString "__next__") = pure (some r) ∧ Q v s') E s := by
  intro vs pv im
  refine wpAny_bind (wpAny_pure (wpAny_bind (epoch_is h1 h2 (wpAny_bind ?_))))
  unfold newFields
  refine wpAny_newObj_type (wpAny_pure ⟨_, rfl, "set_iterator", _, ⟨_, Heap.get?_push_size _ rfl, rfl⟩, siNext.lookup, ?_⟩)
  have e : s = { s with heap := s.heap, drawn := s.drawn } := by cases s; rfl
  refine q s.heap.objs.size S vs _ s.drawn pv ⟨Heap.get?_push_of_some _ h1, h2, ⟨_, Heap.get?_push_size _ rfl, im _⟩, ⟨Nat.ne_of_lt hS, Nat.ne_of_lt hS⟩, by rw [pv.length_eq]; simp⟩ (Nat.le_refl _) (.inl rfl) (by rw [Heap.size_push]; exact Nat.lt_succ_of_lt hS) fun b o e => Heap.get?_push_of_some _ e
 cases hb : w.params.followText "set-order" with
 | true =>
  rw [if_neg (by simp)]
  exact easy _ ((pick_perm _ es).map _) fun h => .text 0 0 hb
 | false =>
  by_cases hd : 1 < es.size
  ·have hpl := hp (by omega)
   have hdr : (!t.plain && decide (es.size > 1)) = true := by rw [hpl]; simp [hd]
   split
   case isFalse hc => exact absurd (show (!false && (!t.plain && decide (es.size > 1))) = true by rw [hdr]; rfl) hc
   refine wpAny_bind (drawOrder_any es.size _ _ _ (by simp) fun ys d py => ?_)
   refine wpAny_bind (wpAny_newTuple ?_ (by rw [List.length_map, py.length_eq, List.length_range]; exact Nat.le_trans (Nat.le_of_lt hz) (by decide)))
   have h1' : (s.heap.push { cls := .type "tuple", data := .seq (ys.map fun (p : Nat) => rawInt p).toArray }).get? S = some (stO es ep t) := Heap.get?_push_of_some _ h1
   refine wpAny_bind (epoch_is (s := { s with heap := s.heap.push { cls := .type "tuple", data := .seq (ys.map fun (p : Nat) => rawInt p).toArray }, drawn := d }) h1' h2 (wpAny_bind ?_))
   unfold newFields
   refine wpAny_newObj_type (wpAny_pure ⟨_, rfl, "set_iterator", _, ⟨_, Heap.get?_push_size _ rfl, rfl⟩, siNext.lookup, ?_⟩)
   have sz : (s.heap.push { cls := .type "tuple", data := .seq (ys.map fun (p : Nat) => rawInt p).toArray }).objs.size = s.heap.objs.size + 1 := Heap.size_push ..
   have pv : (ys.map fun p => (es[p]?.map (·.2)).getD .none).Perm (es.toList.map (·.2)) := by
    refine (py.map _).trans ?_
    have : (List.range es.size).map (fun p => (es[p]?.map (·.2)).getD .none) = es.toList.map (·.2) := by
     apply List.ext_getElem (by simp)
     intro n a1 a2
     simp at a1 a2
     simp [a1]
    rw [this]
   refine q _ s.heap.objs.size (ys.map fun p => (es[p]?.map (·.2)).getD .none) _ d pv ⟨Heap.get?_push_of_some _ h1', h2, ⟨_, Heap.get?_push_size _ rfl, .drawn 0 ys hb hpl hd (Heap.get?_push_of_some _ (Heap.get?_push_size _ rfl)) py⟩, ⟨?_, ?_⟩, by rw [pv.length_eq]; simp⟩ ?_ (.inr (Nat.le_refl _)) ?_ fun b o e => Heap.get?_push_of_some _ (Heap.get?_push_of_some _ e)
   ·rw [sz]; exact Nat.ne_of_lt (Nat.lt_succ_of_lt hS)
   ·rw [sz]; exact Nat.ne_of_lt (Nat.lt_succ_self _)
   ·rw [sz]; exact Nat.le_succ _
   ·rw [Heap.size_push, sz]; exact Nat.lt_succ_of_lt (Nat.lt_succ_self _)
  ·have hdr : (!t.plain && decide (es.size > 1)) = false := by simp [hd]
   split
   case isTrue hc =>
    have hc' : (!false && (!t.plain && decide (es.size > 1))) = true := hc
    rw [hdr] at hc'
    cases hc'
   exact easy _ (.refl _) fun h => .few 0 0 hb (hl hb) (by omega) (fun _ => rfl) fun z => by cases z
end
section
variable {prog : Program} {w : World} {A : Around} {E : Value → Shared → Prop} {S I T : Addr} {es : Array (Int × Value)} {ep : Nat} {t : SetTable} {vs : List Value}
theorem si_walks (hh : A.handled = none) : Walks prog w A I [S, I, T] [I] es.size (fun i v => vs[i]? = some v) (fun i h => ItS w S es ep t I T vs i h ∧ i ≤ es.size) where
 sub := fun b hb => by
  have : b = I := by simpa using hb
  simp [this]
 frame := fun i h h' ⟨x, hi⟩ k => ⟨x.keep k, hi⟩
 item := fun i s Q E hi ⟨x, _⟩ hQ => by
  have hl : i < vs.length := by rw [x.len]; exact hi
  refine siItem (v := vs[i]) x (by simp [hl]) fun h' x' k => ?_
  exact hQ _ h' s.toks (by simp [hl]) ⟨x', hi⟩ fun b o hb e => k b o (by simpa using hb) e
 done := fun s Q E ⟨x, _⟩ hQ => siEnd hh x fun h' tk k => hQ h' tk fun b o hb e => k b o (by simpa using hb) e
 self := fun i s Q E ⟨x, _⟩ q => by
  obtain ⟨first, h3, _⟩ := x.it
  have hT : s.TypeIs (.ref I) "set_iterator" := ⟨_, h3, rfl⟩
  refine wpAny_pyIter_slot hT siIter (wpAny_call_entry siIter hT siIterE ?_ (siIterA _))
  show wpAny _ _ (ret (.ref I)) _ _ s
  exact wpAny_pure ⟨_, rfl, "set_iterator", _, hT, siNext.lookup, q⟩
end
section
variable {prog : Program} {w : World} {A : Around} {E : Value → Shared → Prop} {s : Shared} {S : Addr} {es : Array (Int × Value)} {ep : Nat} {t : SetTable}
theorem collect_set {Q : List Value → Shared → Prop} (hh : A.handled = none) (h1 : s.heap.get? S = some (stO es ep t)) (h2 : t.fits es.size = true) (hz : es.size < scanBound) (hl : w.params.followText "set-order" = false → t.led = true) (hp : 1 ≤ es.size → t.plain = false)
  (q : ∀ (vs : List Value) (h' : Heap) (tk : Nat) (d : Drawn), vs.Perm (es.toList.map (·.2)) → s.heap.objs.size < h'.objs.size → (∀ b o, s.heap.get? b = some o → h'.get? b = some o) → Q vs { s with heap := h', toks := tk, drawn := d }) :
  wpAny (model prog w) A (collect (.ref S)) Q E s := by
 have hS : S < s.heap.objs.size := Heap.lt_size h1
 have hSne : s.heap.objs.size ≠ S := Nat.ne_of_gt hS
 unfold collect
 refine wpAny_bind (wpAny_runValue (codeAny_builtin PySem.F.entry_proto_collect ?_))
 rw [Around.under_plainId PySem.F.plain_proto_collect _]
 show wpAny _ A.in1 (newList [] >>= fun l => again (.builtin "list.__iadd__" ⟨[l, .ref S], []⟩)) _ _ s
 refine wpAny_bind (wpAny_newObj_type (wpAny_pure ⟨plainId_quiet PySem.F.plain_list_iadd _, codeAny_builtin PySem.F.entry_list_iadd ?_⟩))
 rw [Around.under_plainId PySem.F.plain_list_iadd _]
 show wpAny _ A.in1 (Builtin.List.listExtendWith (.ref s.heap.objs.size) (.ref S) (.ref s.heap.objs.size)) _ _ _
 have h1' : (s.heap.push { cls := .type "list", data := .seq ([] : List Value).toArray }).get? S = some (stO es ep t) := Heap.get?_push_of_some _ h1
 unfold Builtin.List.listExtendWith
 refine wpAny_bind (wpAny_typeOf (T := "set") ⟨_, h1', rfl⟩ ?_)
 have e1 : Builtin.List.listSameRef (.ref s.heap.objs.size) (.ref S) = false := by simp [Builtin.List.listSameRef, hSne]
 rw [if_neg (by rw [e1]; decide)]
 refine wpAny_bind (seIterOk (s := { s with heap := s.heap.push { cls := .type "list", data := .seq ([] : List Value).toArray } }) h1' h2 hz hl hp fun I T vs h' d pv x hI hT hTl k => ?_)
 have hTS : ({ s with heap := h', drawn := d } : Shared).TypeIs (.ref S) "set" := ⟨_, x.set, rfl⟩
 refine wpAny_bind (wpAny_holding ?_)
 unfold Builtin.List.listLengthHint
 refine wpAny_bind (wpAny_specialOf hTS seLen ?_)
 have sp : splitId "set.__len__" = some ("set", "__len__") := by decide +kernel
 dsimp only
 rw [sp]
 dsimp only
 refine wpAny_bind (wpAny_isInstance (b := true) hTS seSub ?_)
 rw [if_neg (by simp)]
 rw [if_pos (by decide +kernel)]
 refine wpAny_bind (wpAny_typeOf hTS ?_)
 dsimp only
 refine wpAny_pure ?_
 rw [if_pos (by decide +kernel)]
 refine wpAny_bind (wpAny_rule ?_)
 have o1 : h'.get? s.heap.objs.size = some { cls := .type "list", data := .seq ([] : List Value).toArray } := k _ _ (Heap.get?_push_size _ rfl)
 have sz : (s.heap.push { cls := .type "list", data := .seq ([] : List Value).toArray }).objs.size = s.heap.objs.size + 1 := Heap.size_push ..
 have hI' : s.heap.objs.size + 1 ≤ I := by rw [← sz]; exact hI
 have hnI : s.heap.objs.size ≠ I := Nat.ne_of_lt hI'
 have hnT : s.heap.objs.size ≠ T := by
  rcases hT with z | z
  ·rw [z]; exact hSne
  ·exact Nat.ne_of_lt (show s.heap.objs.size + 1 ≤ T by rw [← sz]; exact z)
 refine wpAny_bind ?_
 show wpAny _ A.in1 (updateSeq s.heap.objs.size (·.push .none) >>= fun _ => updateSeq s.heap.objs.size (·.pop)) _ _ _
 refine wpAny_bind (wpAny_updateSeq o1 rfl ?_)
 have o2 := Heap.get?_update_self (Obj.mapSeq (·.push Value.none)) o1 rfl
 refine wpAny_updateSeq o2 rfl ?_
 have o3 := Heap.get?_update_self (Obj.mapSeq (·.pop)) o2 rfl
 have oth : ∀ b o, b ≠ s.heap.objs.size → h'.get? b = some o → ((h'.update s.heap.objs.size (Obj.mapSeq (·.push Value.none))).update s.heap.objs.size (Obj.mapSeq (·.pop))).get? b = some o :=
  fun b o hb e => (Heap.get?_update_other _ _ (Ne.symm hb)).trans ((Heap.get?_update_other _ _ (Ne.symm hb)).trans e)
 have x3 : ItS w S es ep t I T vs 0 ((h'.update s.heap.objs.size (Obj.mapSeq (·.push Value.none))).update s.heap.objs.size (Obj.mapSeq (·.pop))) := x.keep fun b hb o e => oth b o (by
  rintro rfl
  simp only [List.mem_cons, List.not_mem_nil, or_false] at hb
  rcases hb with z | z | z
  ·exact hSne z
  ·exact hnI z
  ·exact hnT z) e
 have hlv : vs.length = es.size := x.len
 refine wpAny_pure ⟨plainId_quiet PySem.F.plain_extend_loop _, codeAny_extend_loopS (si_walks (prog := prog) (w := w) (A := A.in1) (I := I) (S := S) (T := T) (es := es) (ep := ep) (t := t) (vs := vs) hh).toS (Nat.le_trans (Nat.le_of_lt hz) (by decide)) _ (by simp; exact ⟨hSne, hnI, hnT⟩) _ es.size 0 _ _ _ rfl (Nat.zero_le _) ⟨x3, Nat.zero_le _⟩ o3 (ItemsOf.nil _) fun s' acc' c' hm hS' hacc => ?_⟩
 show wpAny _ A (load s.heap.objs.size >>= _) _ _ s'
 refine wpAny_bind (wpAny_load hS' (wpAny_pure ?_))
 have ev : acc'.toList = vs := by
  obtain ⟨z1, z2⟩ := hacc
  apply List.ext_getElem (by simp [z1, hlv])
  intro n a1 a2
  have : vs[n]? = some acc'[n] := z2 n acc'[n] (by simp at a1; simp [a1])
  rw [List.getElem?_eq_getElem a2] at this
  simpa using (Option.some.inj this).symm
 obtain ⟨m1, m2, m3, m4, m5⟩ := hm
 have es' : s' = { s with heap := s'.heap, toks := s'.toks, drawn := d } := by
  obtain ⟨g1, g2, g3, g4, g5⟩ := s'
  simp only at m2 m3 m4 ⊢
  rw [m2, m3, m4]
 show Q acc'.toList s'
 rw [ev, es']
 refine q vs _ _ _ pv (Heap.lt_size hS') fun b o e => m1 b o ?_ (oth b o (Nat.ne_of_lt (Heap.lt_size e)) (k b o (Heap.get?_push_of_some _ e)))
 have hb := Heap.lt_size e
 simp only [List.mem_cons, List.not_mem_nil, or_false, not_or]
 exact ⟨Nat.ne_of_lt hb, Nat.ne_of_lt (Nat.lt_of_lt_of_le hb (Nat.le_trans (Nat.le_succ _) hI'))⟩
theorem sorted_set {Q : Value → Shared → Prop} {ss : List Str} (hh : A.handled = none) (h1 : s.heap.get? S = some (stO es ep t)) (h2 : t.fits es.size = true) (hz : es.size < 64) (hl : w.params.followText "set-order" = false → t.led = true) (hp : 1 ≤ es.size → t.plain = false)
  (hk : Paired (fun k (e : Int × Value) => (PySem.strKind prog w).is k e.2 = true) ss es.toList)
  (q : ∀ (L : Addr) (out : List Value) (ss' : List Str) (n : Nat) (h' : Heap) (tk : Nat) (d : Drawn), StrsAre out ss' → ss'.Perm ss → sortedS ss' = true → s.heap.objs.size ≤ L → h'.get? L = some { cls := .type "list", data := .seq out.toArray n } → (∀ b o, s.heap.get? b = some o → h'.get? b = some o) → Q (.ref L) { s with heap := h', toks := tk, drawn := d }) :
  wpAny (model prog w) A (call (.builtin "sorted") [.ref S]) Q E s := by
 refine Calls.call_function_entry kind_sorted plain_sorted entry_sorted (args_sorted1 _) ?_
 unfold Builtin.«sorted»
 refine wpAny_bind (m := checkCount "sorted" 1 1 _) (wpAny_pure ?_)
 have hz' : es.size < scanBound := Nat.lt_trans hz (by decide)
 refine wpAny_bind (collect_set (A := A.in1) hh h1 h2 hz' hl hp fun vs h' tk d pv hlt k => ?_)
 refine wpAny_bind (wpAny_newList ?_ (by rw [pv.length_eq]; simp; exact Nat.le_trans (Nat.le_of_lt hz') (by decide)))
 have hlen : vs.length < 64 := by rw [pv.length_eq]; simpa using hz
 have hk2 : Paired (fun k (v : Value) => (PySem.strKind prog w).is k v = true) ss (es.toList.map (·.2)) := by
  have key : ∀ {a : List Str} {b : List (Int × Value)}, Paired (fun k (e : Int × Value) => (PySem.strKind prog w).is k e.2 = true) a b → Paired (fun k (v : Value) => (PySem.strKind prog w).is k v = true) a (b.map (·.2)) := by
   intro a b h
   induction h with
   | nil => exact .nil
   | cons r t ih => exact .cons r ih
  exact key hk
 obtain ⟨ss1, p1, p2⟩ := paired_perm pv.symm hk2
 have hS1 : StrsAre vs ss1 := by
  have key : ∀ {a : List Str} {b : List Value}, Paired (fun k (v : Value) => (PySem.strKind prog w).is k v = true) a b → StrsAre b a := by
   intro a b h
   induction h with
   | nil => exact .nil
   | cons r t ih =>
    obtain ⟨tk, rfl⟩ := Value.isStrOf_shape r
    exact .cons _ tk ih
  exact key p1
 have hoL : (h'.push (seqObj "list" vs.toArray 0)).get? h'.objs.size = some (seqObj "list" vs.toArray 0) := Heap.get?_push_size _ rfl
 refine wpAny_bind (wpAny_holding (wpAny_call_entry slot_list_sort ⟨_, hoL, rfl⟩ entry_list_sort (list_sort_treeK strKind_oneLt hoL hS1.keysOf (fun v₁ v₂ rest e => keyKind_strs (by rw [← e]; exact hS1)) hlen fun st' a1 a2 => ⟨_, rfl, ?_⟩) (args_list_sort _)))
 obtain ⟨ss', b1, b2, b3⟩ := sorted_out_str hS1 a1 a2
 obtain ⟨e, he⟩ := sortedHeap_at (out := (arrOf st').map (·.2)) hoL
 refine wpAny_pure ⟨_, rfl, q h'.objs.size ((arrOf st').map (·.2)).toList ss' e _ tk d b1 (b2.trans p2) b3 (Nat.le_of_lt hlt) (by rw [Array.toArray_toList]; exact he) fun b o eb => ?_⟩
 have hb := Heap.lt_size (k b o eb)
 show (sortedHeap (h'.push (seqObj "list" vs.toArray 0)) h'.objs.size vs ((arrOf st').map (·.2))).get? b = some o
 rw [sortedHeap_old (Nat.ne_of_lt hb) (by rw [Heap.size_push]; exact Nat.lt_succ_of_lt hb)]
 exact Heap.get?_push_of_some _ (k b o eb)
end
theorem rising_pw : ∀ {l : List Str} {p : Str}, risingS p l = true → (p :: l).Pairwise fun a b => LeT a.cps.toList b.cps.toList
 | [], p, _ => List.pairwise_singleton ..
 | x :: l, p, h => by
  have h' : (!ltCps x.cps.toList p.cps.toList && risingS x l) = true := h
  obtain ⟨h1, h2⟩ := Bool.and_eq_true_iff.mp h'
  have ih := rising_pw h2
  have hpx : LeT p.cps.toList x.cps.toList := by
   rw [ltCps_eq] at h1
   simpa using h1
  refine List.pairwise_cons.mpr ⟨fun z hz => ?_, ih⟩
  rcases List.mem_cons.mp hz with rfl | hz
  ·exact hpx
  ·exact leT_trans hpx ((List.pairwise_cons.mp ih).1 z hz)
theorem sorted_pw : ∀ {l : List Str}, sortedS l = true → l.Pairwise fun a b => LeT a.cps.toList b.cps.toList
 | [], _ => .nil
 | x :: l, h => rising_pw h
theorem sorted_is {ls : List (List Nat)} {ss : List Str} (hp : ss.Perm (ls.map txt)) (hs : sortedS ss = true) : ss = (sortT ls).map txt := by
 have e1 : ss = (ss.map fun x => x.cps.toList).map txt := by
  rw [List.map_map]
  conv => lhs; rw [← List.map_id ss]
  refine List.map_congr_left fun x _ => ?_
  cases x
  simp [txt]
 have e2 : (ss.map fun x => x.cps.toList) = sortT ls := by
  refine sort_one (List.pairwise_map.mpr (sorted_pw hs)) (sortT_sort ls) ?_
  refine (hp.map _).trans ?_
  rw [List.map_map]
  have : ls.map ((fun x : Str => x.cps.toList) ∘ txt) = ls := by
   conv => rhs; rw [← List.map_id ls]
   refine List.map_congr_left fun x _ => ?_
   simp [txt]
  rw [this]
  exact (sortT_perm ls).symm
 rw [← e2]
 exact e1
theorem strs_vals : ∀ {out : List Value} {ls : List (List Nat)}, StrsAre out (ls.map txt) → Vals (ls.map S) out
 | _, [], .nil => .nil
 | _, l :: ls, .cons _ t r => .cons ⟨t, rfl⟩ (strs_vals r)
theorem ra_in {α : Type} [DecidableEq α] {x : α} {l : List α} (h : x ∈ l) : [x].removeAll l = [] := by simp [List.removeAll, h]
theorem ra_out {α : Type} [DecidableEq α] {x : α} {l : List α} (h : x ∉ l) : [x].removeAll l = [x] := by simp [List.removeAll, h]
theorem dup_map2 {α β : Type} [DecidableEq α] [DecidableEq β] (h : α → β) (hi : ∀ a b, h a = h b → a = b) : ∀ (n : Nat) (l : List α), l.length = n → (l.map h).eraseDups = l.eraseDups.map h
 | 0, l, e => by rw [List.length_eq_zero_iff.mp e]; rfl
 | n + 1, l, e => by
  have hne : l ≠ [] := fun z => by rw [z] at e; cases e
  have hl : l.dropLast.length = n := by rw [List.length_dropLast, e]; rfl
  have ih := dup_map2 h hi n l.dropLast hl
  rw [← List.dropLast_concat_getLast hne, List.map_append, List.map_cons, List.map_nil, List.eraseDups_append, List.eraseDups_append, ih, List.map_append]
  congr 1
  by_cases z : l.getLast hne ∈ l.dropLast
  ·have z' : h (l.getLast hne) ∈ l.dropLast.map h := List.mem_map.mpr ⟨_, z, rfl⟩
   rw [ra_in z', ra_in z]
   rfl
  ·have z' : h (l.getLast hne) ∉ l.dropLast.map h := fun q => by
    obtain ⟨a, ha, e⟩ := List.mem_map.mp q
    exact z (hi _ _ e ▸ ha)
   rw [ra_out z', ra_out z]
   rfl
theorem dup_txt2 (ls : List (List Nat)) : (ls.map txt).eraseDups = ls.eraseDups.map txt := by
 rw [dup_map2 txt txt_inj _ ls rfl]
 rw [beq_same (α := List Nat) _]
theorem dup_leT (ls : List (List Nat)) {n : Nat} (h : ls.length ≤ n) : ls.eraseDups.length ≤ n := by
 have := dup_le' ls n h
 rwa [beq_same (α := List Nat) _] at this
theorem sm_strs : ∀ {ds : List Dt} {ls : List (List Nat)}, strsM ds = some ls → sms ds → ∀ l ∈ ls, l.length ≤ 10000
 | [], ls, h, _, l, hl => by cases h; cases hl
 | .str a :: ds, ls, h, z, l, hl => by
  have h' : (strsM ds).map (a :: ·) = some ls := h
  obtain ⟨ls', e1, e2⟩ := Option.map_eq_some_iff.mp h'
  subst e2
  rcases List.mem_cons.mp hl with rfl | hl
  ·exact z.1
  ·exact sm_strs e1 z.2 l hl
 | .non :: ds, ls, h, _, _, _ => by cases h
 | .bl _ :: ds, ls, h, _, _, _ => by cases h
 | .int _ :: ds, ls, h, _, _, _ => by cases h
 | .tup _ :: ds, ls, h, _, _, _ => by cases h
 | .lst _ :: ds, ls, h, _, _, _ => by cases h
theorem Inv.drawnD {X : Cx} {pins : List (Addr × Obj)} {σ : St} {H : Hp} {s : Shared} (I : Inv X pins σ H s) (d : Drawn) : Inv X pins σ H { s with drawn := d } :=
 ⟨I.ok, I.os, I.bare, I.base, I.loc, I.cell, I.free, I.freeC, I.pin, I.hok, I.len, I.tk⟩
section
variable {X : Cx} {cls : Nat → Addr} {E : XK} {e : Expr} {f : Rho → M Dt} {pos pos2 p p2 : Pos}
theorem tx_list {pins : List (Addr × Obj)} {σ : St} {H : Hp} {s : Shared} {A : List Addr} {Q : VK} {L : Addr} {out : List Value} {n : Nat} {h' : Heap} {tk : Nat} {d : Drawn} {ls : List (List Nat)} (I : Inv X pins σ H s) (Lv : Liv H A) (hL : s.heap.objs.size ≤ L) (ho : h'.get? L = some { cls := .type "list", data := .seq out.toArray n }) (k : ∀ b o, s.heap.get? b = some o → h'.get? b = some o)
  (hv : StrsAre out (ls.map txt)) (hl : ls.length ≤ 10000) (hz : ∀ l ∈ ls, l.length ≤ 10000) (q : Res X.K cls A E (.ok (.lst (ls.map Dt.str))) H Q) : EP X pins σ Q (.ref L) { s with heap := h', toks := tk, drawn := d } := by
 have hfr : H L = none := I.hok.fresh hL
 refine (fun ht => ⟨.ref L, upd H L (.lst (ls.map S)), (I.laid (o := .lst (ls.map S)) (t' := tk) k hL ⟨by rw [List.length_map]; exact big _ hl, out, n, strs_vals hv, ho⟩).drawnD d, rfl, ?_⟩)
 refine q (.ref L) _ (.upd hfr) (rep_lst (hid_new Lv hfr) ?_) ⟨by simpa using hl, sms_of fun x hx => ?_⟩
 ·have : ∀ l : List (List Nat), Reps X.K (hid (upd H L (.lst (ls.map S))) A) (l.map Dt.str) (l.map S) := fun l => by
   induction l with
   | nil => exact .nil
   | cons a l ih => exact .cons rep_str ih
  exact this ls
 ·obtain ⟨l, hl', rfl⟩ := List.mem_map.mp hx
  exact hz l hl'
theorem ev_sortset (hc : X.calm = true) (hgl : Gl X "sorted") (hml : X.mg "sorted" = none) (hgs : Gl X "set") (hms : X.mg "set" = none) (ha : Ev X cls E e f) (hst : isStar e = false) :
  Ev X cls E (.Call (.Name "sorted" p) [.Call (.Name "set" p2) [e] [] pos2] [] pos) (p1 oSortSet f) := by
 intro pins s σ H Q I ⟨O, A, ρ, F, q⟩
 refine wpAny_Call_Name_kw (ld_blt I hgl hml boot_sorted ?_ (by decide) (by decide))
 refine PyProof.Rows.callWith_builtin1 (e := .Call (.Name "set" p2) [e] [] pos2) (rest := []) ?_ rfl rfl
 refine Calls.spliced_cons (x := eval (.Call (.Name "set" p2) [e] [] pos2) X.env) ?_
 refine wpAny_Call_Name_kw (ld_blt I hgs hms (show bootBuiltins "set" = some (.type "set") from by decide +kernel) ?_ (by decide) (by decide))
 refine PyProof.Rows.callWith_type1 (e := e) (rest := []) ?_ (starEach_cons hst) rfl
 rw [starEach_cons hst]
 refine Calls.spliced_cons (x := eval e X.env) (thn (ha pins s σ H (fun x H1 => ∃ d, Same H H1 ∧ Rep X.K (hid H1 A) d x ∧ sm d ∧ Res X.K cls A E (oSortSet d) H1 Q) I ⟨O, A, ρ, F, Rg.bind q fun d _ q1 => ?_⟩) fun u s1 ⟨x, H1, I1, r1, d, sm1, rp, zd, q1⟩ => ?_)
 ·intro x H1 s1 r1 z1
  exact ⟨d, s1, r1, z1, Res.mono q1 s1⟩
 refine Calls.spliced_nil ?_
 cases d with
 | lst ds =>
  simp only [oSortSet] at q1
  split at q1
  ·rename_i hlen
   cases hs : strsM ds with
   | none => rw [hs] at q1; exact (show False from q1).elim
   | some ls =>
    rw [hs] at q1
    obtain ⟨pl, xs, rfl, h1, h2⟩ := repL rp
    cases r1
    have hx := strs_rep hs h2
    subst hx
    obtain ⟨its, rv, pla, hz⟩ := I1.list (hid_same.seq h1)
    have hl : its.length = ls.length := by have := rv.length; simpa using this.symm
    have hl2 : ls.length ≤ 60 := by have := h2.length; simp at this; omega
    refine wpAny_with_toks (n := 1) I1.tk ?_
    refine set_of_listX (knd := PySem.strKind X.prog X.w) (ks := ls.map txt) (I1.ok.hd hc) pla.isList (fun i v hv => ?_) (by simp [hl]) (by simp [scanBound]; omega) fun h' tk hS hk htk => ?_
    ·have hv' : its[i]? = some v := by simpa using hv
     have hi : i < its.length := (List.getElem?_eq_some_iff.mp hv').1
     have hi2 : i < ls.length := by omega
     obtain ⟨u, hu, ru⟩ := rv.get (i := i) (x := S ls[i]) (by simp [hi2])
     rw [hv'] at hu
     cases hu
     obtain ⟨t, rfl⟩ := ru
     exact ⟨txt ls[i], by simp [hi2], strKind_is X.prog X.w _ _, rfl, rfl⟩
    ·refine Calls.spliced_nil ?_
     obtain ⟨es, ep, t, kl, ho, hel, hp, pm, hb, hf, hld, hpl⟩ := hS
     rw [dup_txt2] at pm
     have hes : es.size < 64 := by
      have e1 : kl.length = es.size := by have := hp.length; simpa using this
      have e2 := pm.length_eq
      have e3 : (ls.eraseDups.map txt).length ≤ 60 := by rw [List.length_map]; exact dup_leT ls hl2
      omega
     have hled : X.w.params.followText "set-order" = false → t.led = true := fun z => by rw [hld]; simp [ledW, z]
     have I2 := I1.kept (t' := tk) hk
     refine sorted_set (s := { s1 with heap := h', toks := tk }) (I1.ok.hd hc) ho hf hes hled hpl hp fun L out ss' n h2 tk2 d2 b1 b2 b3 hL hoL k2 => ?_
     have e := sorted_is (b2.trans pm) b3
     subst e
     refine tx_list (cls := cls) (E := E) I2 (F.liv.mono sm1) hL hoL k2 b1 ?_ ?_ ?_
     ·have e1 := (sortT_perm ls.eraseDups).length_eq
      have e3 := dup_leT ls hl2
      omega
     ·intro l hl'
      have m1 := (sortT_perm ls.eraseDups).mem_iff.mp hl'
      have m2 : l ∈ ls := by simpa using m1
      exact sm_strs hs zd.2 l m2
     ·exact q1
  ·exact (show False from q1).elim
 | _ => exact (show False from q1).elim
end
theorem map_free {c d : Nat} : ∀ l : List Nat, c ∉ l → (l.map fun k => if k = c then d else k) = l
 | [], _ => rfl
 | k :: r, h => by
  have h1 : ¬ k = c := fun e => h (e ▸ List.mem_cons_self ..)
  rw [List.map_cons, if_neg h1, map_free r fun m => h (List.mem_cons_of_mem _ m)]
theorem map_join {c d : Nat} : ∀ parts : List Str, (∀ p ∈ parts, c ∉ p.cps.toList) → ((Str.join ⟨#[c]⟩ parts).cps.toList.map fun k => if k = c then d else k) = (Str.join ⟨#[d]⟩ parts).cps.toList
 | [], _ => rfl
 | [p], h => map_free _ (h p (List.mem_singleton.mpr rfl))
 | p :: q :: r, h => by
  have ih := map_join (c := c) (d := d) (q :: r) fun a ha => h a (List.mem_cons_of_mem _ ha)
  show ((p ++ ⟨#[c]⟩ ++ Str.join ⟨#[c]⟩ (q :: r)).cps.toList.map fun k => if k = c then d else k) = (p ++ ⟨#[d]⟩ ++ Str.join ⟨#[d]⟩ (q :: r)).cps.toList
  simp only [Str.cps_append, Array.toList_append, List.map_append]
  rw [ih, map_free _ (h p (List.mem_cons_self ..))]
  simp
theorem replace_map (l : List Nat) (c d : Nat) : Txt.replace ⟨l.toArray⟩ ⟨#[c]⟩ ⟨#[d]⟩ = ⟨(l.map fun k => if k = c then d else k).toArray⟩ := by
 have h : (Txt.replace ⟨l.toArray⟩ ⟨#[c]⟩ ⟨#[d]⟩).cps.toList = l.map fun k => if k = c then d else k := by
  rw [StrLaws.replace_one, ← map_join _ (StrLaws.split_free _ c), StrLaws.join_split]
 generalize Txt.replace ⟨l.toArray⟩ ⟨#[c]⟩ ⟨#[d]⟩ = x at h ⊢
 obtain ⟨x⟩ := x
 congr 1
 rw [← h]
section
variable {X : Cx} {cls : Nat → Addr} {E : XK} {o : Expr} {f : Rho → M Dt} {pos apos : Pos}
theorem ev_repl {a b : Nat} {y z : Str} {j1 j2 : Nat} {p1 p2 : Pos} (hy : y = ⟨#[a]⟩) (hz : z = ⟨#[b]⟩) (hab : a ≠ b) (ho : Ev X cls E o f) (hbase : attributeBase o "replace" X.env (eval o X.env) = eval o X.env := by rfl)
  (hline : (apos.endLine == pos.line) = true := by rfl) : Ev X cls E (.Call (.Attribute o "replace" apos) [.Constant (.str y) j1 p1, .Constant (.str z) j2 p2] [] pos) (L2.p1 (oRepl a b) f) := by
 intro pins s σ H Q I ⟨O, A, ρ, F, q⟩
 subst hy hz
 refine wpAny_Call_method_late hbase rfl hline rfl (thn (ho pins s σ H (fun x H1 => ∃ d, Same H H1 ∧ Rep X.K (hid H1 A) d x ∧ sm d ∧ Res X.K cls A E (oRepl a b d) H1 Q) I ⟨O, A, ρ, F, Rg.bind q fun d _ q1 => ?_⟩) fun v s1 ⟨x, H1, I1, r1, d, sm1, rp, zd, q1⟩ => ?_)
 ·intro x H1 s1 r1 z1
  exact ⟨d, s1, r1, z1, Res.mono q1 s1⟩
 cases d with
 | str l =>
  simp only [oRepl] at q1
  split at q1
  ·rename_i hl
   have e := repS rp
   subst e
   obtain ⟨h1, h2⟩ := tyV_is (T := "str") I1 r1 rfl
   obtain ⟨t, rfl⟩ := r1
   refine ⟨"str", "str.replace", PySem.F.plainAttrs_str, PySem.F.slot_str_replace, PySem.F.type_str_replace, h1, h2, ?_⟩
   refine Calls.callWith_builtin rfl (Calls.evalArgs_plain ?_)
   refine Calls.spliced_cons (x := eval (.Constant (.str ⟨#[a]⟩) j1 p1) X.env) (Calls.Constant_str ?_)
   refine Calls.spliced_cons (x := eval (.Constant (.str ⟨#[b]⟩) j2 p2) X.env) (Calls.Constant_str (Calls.spliced_nil ?_))
   have ht := I1.tk
   refine SC.replaceW (Nat.pos_iff_ne_zero.mp ht) (Nat.succ_ne_zero _) (Nat.ne_of_lt (Nat.lt_succ_self _)) ?_ (by show l.toArray.size ≤ _; simp; omega) (by show (#[b] : Array Nat).size ≤ 14; simp) fun t' k => ?_
   ·apply Bool.eq_false_iff.mpr
    intro hh
    have e := eq_of_beq hh
    injection e with e1
    simp at e1
    exact hab e1
   ·rw [replace_map]
    exact fun hk => ⟨S (l.map fun k => if k = a then b else k), H1, I1.tok k, ⟨t', rfl⟩, q1 _ H1 (.refl _) rep_str (by show (l.map _).length ≤ 10000; rw [List.length_map]; omega)⟩
  ·exact (show False from q1).elim
 | _ => exact (show False from q1).elim
end
abbrev ZipO (h : Heap) (z TI TO a : Addr) (b : Bool) : Prop :=
 h.get? z = some { cls := .type "zip", dict := none, data := .fields #[rawInt a, .bool b, .bool false, .ref TI, .ref TO], slots := #[] }
section
variable {prog : Program} {w : World} {A : Around} {E : Value → Shared → Prop} {s : Shared} {z TI TO i1 i2 a : Addr} {b : Bool} {f1 : List Addr} {n1 : Nat} {P1 : Nat → Value → Prop} {S1 : Nat → Heap → Prop} {f2 : List Addr} {n2 : Nat} {P2 : Nat → Value → Prop} {S2 : Nat → Heap → Prop}
theorem zn_free {oa : Obj} {Q : Bool → Shared → Prop} (hz : ZipO s.heap z TI TO a b) (ha : s.heap.get? a = some oa) (q : ∀ h', ZipO h' z TI TO a true → Heap.SameBut z s.heap h' → Q false { s with heap := h' }) : wpAny (model prog w) A (Builtin.SmallTypes.ownedTupleIsFree (.ref z)) Q E s := by
 unfold Builtin.SmallTypes.ownedTupleIsFree
 refine wpAny_bind (wpAny_field hz rfl (x := rawInt a) rfl ?_)
 show wpAny _ _ (loadIfAlive (a : Int).toNat >>= _) _ _ _
 rw [show ((a : Nat) : Int).toNat = a from rfl]
 refine wpAny_bind (kdx_alive ha ?_)
 rw [if_neg (by simp)]
 refine wpAny_bind (wpAny_field hz rfl (x := .bool b) rfl ?_)
 cases b with
 | true =>
  rw [if_neg (by decide)]
  exact wpAny_pure (q s.heap hz (.refl ..))
 | false =>
  rw [if_pos (by decide)]
  exact wpAny_bind (wpAny_setField_rec hz (by simp) fun h' hz' hs => wpAny_pure (q h' hz' hs))
theorem zn_out2 (L : ZA2 z TI TO i1 i2 f1 f2) (D1 : Draws prog w A i1 f1 n1 P1 S1) (D2 : Draws prog w A i2 f2 n2 P2 S2) {m : Nat} {oa : Obj} (hz : ZipO s.heap z TI TO a b) (ha : s.heap.get? a = some oa) (hTI : IsTA s.heap TI #[.ref i1, .ref i2]) (st1 : S1 m s.heap) (st2 : S2 m s.heap) (h1 : m < n1) (h2 : m < n2) {Q : Value → Shared → Prop}
  (hQ : ∀ x1 x2 h' tk, P1 m x1 → P2 m x2 → ZipO h' z TI TO a true → S1 (m + 1) h' → S2 (m + 1) h' → IsTA h' s.heap.objs.size #[x1, x2] → (∀ c o, c ≠ z → c ≠ i1 → c ≠ i2 → s.heap.get? c = some o → h'.get? c = some o) → Q (.ref s.heap.objs.size) { s with heap := h', toks := tk }) :
  wpAny (model prog w) A (Builtin.«zip.__next__» ⟨[.ref z], []⟩) (fun fin s' => ∃ v, fin = .done (.ret v) ∧ Q v s') E s := by
 show wpAny _ _ (field (.ref z) 2 >>= _) _ _ _
 refine wpAny_bind (wpAny_field hz rfl (x := .bool false) rfl ?_)
 show wpAny _ _ (field (.ref z) 3 >>= _) _ _ _
 refine wpAny_bind (wpAny_field hz rfl (x := .ref TI) rfl ?_)
 refine wpAny_bind (wpAny_seqItems hTI rfl ?_)
 show wpAny _ _ (Builtin.SmallTypes.ownedTupleIsFree (.ref z) >>= _) _ _ _
 refine wpAny_bind (zn_free hz ha fun g0 hz0 hs0 => ?_)
 have s0_1 := D1.frame _ _ _ st1 fun b hb o e => hs0.extBut b o (fun q => L.fz1 (q ▸ hb)) e
 have s0_2 := D2.frame _ _ _ st2 fun b hb o e => hs0.extBut b o (fun q => L.fz2 (q ▸ hb)) e
 simp only [Bool.false_eq_true, if_false]
 refine wpAny_bind ?_
 rw [← Array.forIn_toList]
 simp only [List.forIn_cons, List.forIn_nil]
 refine wpAny_bind (wpAny_bind (wpAny_holding ?_))
 show wpAny _ _ (Builtin.SmallTypes.nextOf (.ref i1) >>= _) _ _ _
 refine wpAny_bind (D1.item m _ _ _ h1 s0_1 fun x1 g1 tk1 px1 s1_1 hs1 => wpAny_pure (wpAny_pure ?_))
 have s1_2 := D2.frame _ _ _ s0_2 fun b hb o e => hs1.extBut b o (fun q => L.f21 (q ▸ hb)) e
 refine wpAny_bind (wpAny_bind (wpAny_holding ?_))
 show wpAny _ _ (Builtin.SmallTypes.nextOf (.ref i2) >>= _) _ _ _
 refine wpAny_bind (D2.item m _ _ _ h2 s1_2 fun x2 g2 tk2 px2 s2_2 hs2 => wpAny_pure (wpAny_pure (wpAny_pure ?_)))
 have s2_1 := D1.frame _ _ _ s1_1 fun b hb o e => hs2.extBut b o (fun q => L.f12 (q ▸ hb)) e
 have hz2 : ZipO g2 z TI TO a true := hs2.extBut _ _ L.z2.symm (hs1.extBut _ _ L.z1.symm hz0)
 have hsz : g2.objs.size = s.heap.objs.size := by rw [hs2.1, hs1.1, hs0.1]
 refine wpAny_bind (wpAny_newTuple (hsz := by show 2 ≤ sizeLine; decide) ?_)
 have up : ∀ c o, g2.get? c = some o → (g2.push { cls := .type "tuple", data := .seq #[x1, x2] }).get? c = some o := fun c o e => Heap.get?_push_of_some _ e
 have hT : IsTA (g2.push { cls := .type "tuple", data := .seq #[x1, x2] }) g2.objs.size #[x1, x2] := Heap.get?_push_size _ rfl
 rw [hsz] at hT
 refine wpAny_pure ⟨_, rfl, ?_⟩
 show Q (.ref g2.objs.size) _
 rw [hsz]
 exact hQ x1 x2 _ _ px1 px2 (up _ _ hz2) (D1.frame _ _ _ s2_1 fun b hb o e => up b o e) (D2.frame _ _ _ s2_2 fun b hb o e => up b o e) hT fun c o c1 d1 d2 e => up c o (hs2.extBut _ _ d2 (hs1.extBut _ _ d1 (hs0.extBut _ _ c1 e)))
theorem zn_outE (L : ZA2 z TI TO i1 i2 f1 f2) (D1 : Draws prog w A i1 f1 n1 P1 S1) (D2 : Draws prog w A i2 f2 n2 P2 S2) {oa : Obj} (hz : ZipO s.heap z TI TO a b) (ha : s.heap.get? a = some oa) (hTI : IsTA s.heap TI #[.ref i1, .ref i2]) (st1 : S1 n1 s.heap) {Q : Fin → Shared → Prop}
  (hE : ∀ h' e tk, (∀ c o, c ≠ z → c ≠ i1 → c ≠ i2 → s.heap.get? c = some o → h'.get? c = some o) → (∃ o, h'.get? e = some o ∧ o.cls = .type "StopIteration") → E (.ref e) { s with heap := h', toks := tk }) :
  wpAny (model prog w) A (Builtin.«zip.__next__» ⟨[.ref z], []⟩) Q E s := by
 show wpAny _ _ (field (.ref z) 2 >>= _) _ _ _
 refine wpAny_bind (wpAny_field hz rfl (x := .bool false) rfl ?_)
 show wpAny _ _ (field (.ref z) 3 >>= _) _ _ _
 refine wpAny_bind (wpAny_field hz rfl (x := .ref TI) rfl ?_)
 refine wpAny_bind (wpAny_seqItems hTI rfl ?_)
 show wpAny _ _ (Builtin.SmallTypes.ownedTupleIsFree (.ref z) >>= _) _ _ _
 refine wpAny_bind (zn_free hz ha fun g0 hz0 hs0 => ?_)
 have s0_1 := D1.frame _ _ _ st1 fun b hb o e => hs0.extBut b o (fun q => L.fz1 (q ▸ hb)) e
 simp only [Bool.false_eq_true, if_false]
 refine wpAny_bind ?_
 rw [← Array.forIn_toList]
 simp only [List.forIn_cons, List.forIn_nil]
 refine wpAny_bind (wpAny_bind (wpAny_holding ?_))
 show wpAny _ _ (Builtin.SmallTypes.nextOf (.ref i1) >>= _) _ _ _
 refine wpAny_bind (D1.done _ _ _ s0_1 fun g e he hS => ?_)
 exact hE g e _ (fun c o c1 d1 d2 x => he _ _ d1 (hs0.extBut _ _ c1 x)) hS
end
def ZpSt (h : Heap) (z TI TO i1 i2 : Addr) (S1 S2 : Nat → Heap → Prop) (i : Nat) : Prop :=
 IsTA h TI #[.ref i1, .ref i2] ∧ S1 i h ∧ S2 i h ∧ ((i = 0 ∧ IsZip h z TI TO .none ∧ ∃ a1 a2, IsTA h TO #[a1, a2]) ∨ (0 < i ∧ ∃ a b oa, ZipO h z TI TO a b ∧ h.get? a = some oa ∧ oa.cls = .type "tuple" ∧ a ≠ z ∧ a ≠ i1 ∧ a ≠ i2))
section
variable {prog : Program} {w : World} {A : Around} {E : Value → Shared → Prop} {s : Shared} {z TI TO i1 i2 : Addr} {f1 : List Addr} {n : Nat} {P1 : Nat → Value → Prop} {S1 : Nat → Heap → Prop} {f2 : List Addr} {P2 : Nat → Value → Prop} {S2 : Nat → Heap → Prop}
theorem zp_next (L : ZA2 z TI TO i1 i2 f1 f2) (D1 : Draws prog w A.in1 i1 f1 n P1 S1) (D2 : Draws prog w A.in1 i2 f2 n P2 S2) {m : Nat} (hz : ZpSt s.heap z TI TO i1 i2 S1 S2 m) (hm : m < n) (hTO : TI ≠ z) (hlt : z < s.heap.objs.size) {Q : Option Value → Shared → Prop}
  (hQ : ∀ x1 x2 h' tk, P1 m x1 → P2 m x2 → ZpSt h' z TI TO i1 i2 S1 S2 (m + 1) → IsTA h' s.heap.objs.size #[x1, x2] → (∀ c o, c ≠ z → c ≠ TO → c ≠ i1 → c ≠ i2 → s.heap.get? c = some o → h'.get? c = some o) → Q (some (.ref s.heap.objs.size)) { s with heap := h', toks := tk }) :
  wpAny (model prog w) A (pyNext (.ref z)) Q E s := by
 obtain ⟨hTI, st1, st2, hc⟩ := hz
 have hT : s.TypeIs (.ref z) "zip" := by
  rcases hc with ⟨_, hz, _⟩ | ⟨_, a, b, oa, hz, _⟩ <;> exact ⟨_, hz, rfl⟩
 have lt : ∀ {c o}, s.heap.get? c = some o → s.heap.objs.size ≠ c := fun e => Nat.ne_of_gt (Heap.lt_size e)
 obtain ⟨o1, e1⟩ := D1.live _ _ st1
 obtain ⟨o2, e2⟩ := D2.live _ _ st2
 unfold pyNext
 refine wpAny_bind (wpAny_attempt (wpAny_callSpecial?_slot (name := Str.ofString "__next__") hT F.slot_zip_next (wpAny_call_entry F.slot_zip_next hT F.entry_zip_next ?_ (F.args_zip_next_1 _))))
 rcases hc with ⟨_, hz, a1, a2, hO⟩ | ⟨_, a, b, oa, hz, ha, hca, n1, n2, n3⟩
 ·refine zn_item2 L D1 D2 hz hTI hO st1 st2 hm hm fun x1 x2 h' tk p1 p2 y1 y2 y3 y4 y5 k => ?_
  refine wpAny_pure (hQ x1 x2 h' tk p1 p2 ⟨k _ _ L.TIz L.TITO L.TI1 L.TI2 hTI, y3, y4, .inr ⟨Nat.succ_pos _, _, _, _, y1, y5, rfl, Nat.ne_of_gt hlt, lt e1, lt e2⟩⟩ y5 k)
 ·refine zn_out2 L D1 D2 hz ha hTI st1 st2 hm hm fun x1 x2 h' tk p1 p2 y1 y3 y4 y5 k => ?_
  refine wpAny_pure (hQ x1 x2 h' tk p1 p2 ⟨k _ _ L.TIz L.TI1 L.TI2 hTI, y3, y4, .inr ⟨Nat.succ_pos _, a, _, oa, y1, k a oa n1 n2 n3 ha, hca, n1, n2, n3⟩⟩ y5 fun c o c1 _ d1 d2 e => k c o c1 d1 d2 e)
theorem zp_end (L : ZA2 z TI TO i1 i2 f1 f2) (D1 : Draws prog w A.in1 i1 f1 n P1 S1) (D2 : Draws prog w A.in1 i2 f2 n P2 S2) (hz : ZpSt s.heap z TI TO i1 i2 S1 S2 n) {Q : Option Value → Shared → Prop}
  (hQ : ∀ h' tk, (∀ c o, c ≠ z → c ≠ TO → c ≠ i1 → c ≠ i2 → s.heap.get? c = some o → h'.get? c = some o) → Q none { s with heap := h', toks := tk }) :
  wpAny (model prog w) A (pyNext (.ref z)) Q E s := by
 obtain ⟨hTI, st1, st2, hc⟩ := hz
 have hT : s.TypeIs (.ref z) "zip" := by
  rcases hc with ⟨_, hz, _⟩ | ⟨_, a, b, oa, hz, _⟩ <;> exact ⟨_, hz, rfl⟩
 unfold pyNext
 refine wpAny_bind (wpAny_attempt (wpAny_callSpecial?_slot (name := Str.ofString "__next__") hT F.slot_zip_next (wpAny_call_entry F.slot_zip_next hT F.entry_zip_next ?_ (F.args_zip_next_1 _))))
 rcases hc with ⟨_, hz, a1, a2, hO⟩ | ⟨_, a, b, oa, hz, ha, hca, n1, n2, n3⟩
 ·refine zn_end2 L D1 D2 hz hTI hO (by simpa using st1) (by simpa using st2) fun h' e tk hk he => ?_
  obtain ⟨o, ho, hc'⟩ := he
  refine wpAny_bind (wpAny_isInstance (T := "StopIteration") (b := true) ⟨o, ho, hc'⟩ isSubtype_stop ?_)
  exact wpAny_pure (hQ h' tk hk)
 ·refine zn_outE L D1 D2 hz ha hTI st1 fun h' e tk hk he => ?_
  obtain ⟨o, ho, hc'⟩ := he
  refine wpAny_bind (wpAny_isInstance (T := "StopIteration") (b := true) ⟨o, ho, hc'⟩ isSubtype_stop ?_)
  exact wpAny_pure (hQ h' tk fun c o c1 _ d1 d2 e => hk c o c1 d1 d2 e)
end
abbrev LsO (acc : Array Value) (c : Nat) : Obj := { cls := .type "list", dict := none, data := .seq acc c, slots := #[] }
section
variable {z TI TO i1 i2 : Addr} {S1 S2 : Nat → Heap → Prop}
theorem ZpSt.keep {prog : Program} {w : World} {A : Around} {f1 f2 : List Addr} {n : Nat} {P1 P2 : Nat → Value → Prop} (D1 : Draws prog w A i1 f1 n P1 S1) (D2 : Draws prog w A i2 f2 n P2 S2) {h h' : Heap} {m : Nat} {S : Addr} {oS : Obj} (x : ZpSt h z TI TO i1 i2 S1 S2 m) (hS : h.get? S = some oS) (hcS : oS.cls = .type "list")
  (k : ∀ b o, b ≠ S → h.get? b = some o → h'.get? b = some o) (n1 : S ∉ f1) (n2 : S ∉ f2) (nz : z ≠ S) (nI : TI ≠ S) (nO : TO ≠ S) : ZpSt h' z TI TO i1 i2 S1 S2 m := by
 obtain ⟨hTI, st1, st2, hc⟩ := x
 refine ⟨k _ _ nI hTI, D1.frame _ _ _ st1 fun b hb o e => k b o (fun q => n1 (q ▸ hb)) e, D2.frame _ _ _ st2 fun b hb o e => k b o (fun q => n2 (q ▸ hb)) e, ?_⟩
 rcases hc with ⟨h0, hz, a1, a2, hO⟩ | ⟨h0, a, b, oa, hz, ha, hca, m1, m2, m3⟩
 ·exact .inl ⟨h0, k _ _ nz hz, a1, a2, k _ _ nO hO⟩
 ·have haS : a ≠ S := fun q => by subst q; rw [ha] at hS; cases hS; rw [hca] at hcS; exact absurd hcS (by decide)
  exact .inr ⟨h0, a, b, oa, k _ _ nz hz, k _ _ haS ha, hca, m1, m2, m3⟩
end
theorem lo_ne {x lo T : Nat} (h : x < lo) (h' : lo ≤ T) : T ≠ x := Nat.ne_of_gt (Nat.lt_of_lt_of_le h h')
def ZpIt (P1 P2 : Nat → Value → Prop) (h : Heap) (acc : Array Value) : Prop := ∀ (j : Nat) v, acc[j]? = some v → ∃ T x1 x2, v = .ref T ∧ IsTA h T #[x1, x2] ∧ P1 j x1 ∧ P2 j x2
def Rise (lo hi : Nat) (acc : Array Value) : Prop := ∃ as : List Nat, acc.toList = as.map (fun a => Value.ref a) ∧ as.Pairwise (· < ·) ∧ ∀ a ∈ as, lo ≤ a ∧ a < hi
theorem Rise.push {lo hi hi' : Nat} {acc : Array Value} (h : Rise lo hi acc) (h1 : lo ≤ hi) (h2 : hi < hi') : Rise lo hi' (acc.push (.ref hi)) := by
 obtain ⟨as, e, p, b⟩ := h
 refine ⟨as ++ [hi], by simp [e], ?_, fun a ha => ?_⟩
 ·rw [List.pairwise_append]
  exact ⟨p, by simp, fun a ha c hc => by simp at hc; rw [hc]; exact (b a ha).2⟩
 ·rcases List.mem_append.mp ha with m | m
  ·exact ⟨(b a m).1, Nat.lt_trans (b a m).2 h2⟩
  ·simp at m; rw [m]; exact ⟨h1, h2⟩
section
variable {prog : Program} {w : World} {A : Around} {R : Result → Shared → Prop} {z TI TO i1 i2 S : Addr} {f1 : List Addr} {n : Nat} {P1 : Nat → Value → Prop} {S1 : Nat → Heap → Prop} {f2 : List Addr} {P2 : Nat → Value → Prop} {S2 : Nat → Heap → Prop}
theorem zp_loop (L : ZA2 z TI TO i1 i2 f1 f2) (D1 : Draws prog w A.in1.in1 i1 f1 n P1 S1) (D2 : Draws prog w A.in1.in1 i2 f2 n P2 S2) (nS : S ∉ [z, TI, TO, i1, i2]) (n1 : S ∉ f1) (n2 : S ∉ f2) (hn : n ≤ 10000) (res : Value) (lo : Nat) (hlo : z < lo ∧ TO < lo ∧ i1 < lo ∧ i2 < lo ∧ S < lo) :
  ∀ (k m : Nat) (s : Shared) (acc : Array Value) (c : Nat), n - m = k → m ≤ n → lo ≤ s.heap.objs.size → ZpSt s.heap z TI TO i1 i2 S1 S2 m → s.heap.get? S = some (LsO acc c) → acc.size = m → ZpIt P1 P2 s.heap acc → (∀ (j : Nat) v, acc[j]? = some v → ∃ T, v = .ref T ∧ lo ≤ T) → Rise lo s.heap.objs.size acc →
   (∀ h' tk acc' c', (∀ b o, b ∉ [z, TO, i1, i2, S] → s.heap.get? b = some o → h'.get? b = some o) → h'.get? S = some (LsO acc' c') → acc'.size = n → ZpIt P1 P2 h' acc' → (∃ hi, Rise lo hi acc') → R (.ok (.ret res)) { s with heap := h', toks := tk }) →
   codeAny (model prog w) A (.builtin "list.extend.loop" ⟨[.ref S, .ref z, res], []⟩) R s := by
 have ns : S ≠ z ∧ S ≠ TI ∧ S ≠ TO ∧ S ≠ i1 ∧ S ≠ i2 := by simpa using nS
 obtain ⟨nz, nI, nO, ni1, ni2⟩ := ns
 obtain ⟨l1, l2, l3, l4, l5⟩ := hlo
 intro k
 induction k with
 | zero =>
  intro m s acc c hk hm hsz st hS ha hi hT hrs hR
  obtain rfl : m = n := by omega
  refine codeAny_builtin F.entry_extend_loop ?_
  rw [Around.under_plainId F.plain_extend_loop _]
  show wpAny _ A.in1 (pyNext (.ref z) >>= _) _ _ s
  refine wpAny_bind (zp_end L D1 D2 st fun h' tk kk => wpAny_pure (hR h' tk acc c (fun b o hb e => ?_) (kk _ _ nz nO ni1 ni2 hS) ha (fun j v hj => ?_) ⟨_, hrs⟩))
  ·simp only [List.mem_cons, List.not_mem_nil, or_false, not_or] at hb
   exact kk b o hb.1 hb.2.1 hb.2.2.1 hb.2.2.2.1 e
  ·obtain ⟨T, x1, x2, rfl, h1, p1, p2⟩ := hi j v hj
   obtain ⟨T', e, hl⟩ := hT j _ hj
   injection e with e
   subst e
   exact ⟨T, x1, x2, rfl, kk _ _ (lo_ne l1 hl) (lo_ne l2 hl) (lo_ne l3 hl) (lo_ne l4 hl) h1, p1, p2⟩
 | succ k ih =>
  intro m s acc c hk hm hsz st hS ha hi hT hrs hR
  have hlt : m < n := by omega
  refine codeAny_builtin F.entry_extend_loop ?_
  rw [Around.under_plainId F.plain_extend_loop _]
  show wpAny _ A.in1 (pyNext (.ref z) >>= _) _ _ s
  refine wpAny_bind (zp_next L D1 D2 st hlt L.TIz (Nat.lt_of_lt_of_le l1 hsz) fun x1 x2 h' tk p1 p2 st' hTa kk => ?_)
  have hS' := kk _ _ nz nO ni1 ni2 hS
  have hTS : s.heap.objs.size ≠ S := lo_ne l5 hsz
  show wpAny _ A.in1 (updateSeq S (·.push (.ref s.heap.objs.size)) >>= _) _ _ _
  have oth : ∀ b o, b ≠ S → h'.get? b = some o → (h'.update S (Obj.mapSeq (·.push (.ref s.heap.objs.size)))).get? b = some o := fun b o hb e => (Heap.get?_update_other _ _ (Ne.symm hb)).trans e
  have hzl : sizeLine ≥ 10000 := by decide
  refine wpAny_bind (wpAny_updateSeq (s := { s with heap := h', toks := tk }) hS' rfl (wpAny_pure ⟨plainId_quiet F.plain_extend_loop _, ih (m + 1) _ (acc.push (.ref s.heap.objs.size)) _ (by omega) hlt ?_ (st'.keep D1 D2 hS' rfl oth n1 n2 (Ne.symm nz) (Ne.symm nI) (Ne.symm nO)) (Heap.get?_update_self _ hS' rfl) (by rw [Array.size_push, ha]) ?_ ?_ (hrs.push hsz (Heap.lt_size (oth _ _ hTS hTa))) ?_⟩) (by rw [ha]; omega) (by show (acc.push _).size ≤ sizeLine + 1; rw [Array.size_push, ha]; omega))
  ·have h2 := Heap.lt_size (oth _ _ hTS hTa)
   exact Nat.le_trans hsz (Nat.le_of_lt h2)
  ·intro j v hj
   rw [Array.getElem?_push] at hj
   split at hj
   ·rename_i e
    cases hj
    rw [e, ha]
    exact ⟨_, x1, x2, rfl, oth _ _ hTS hTa, p1, p2⟩
   ·obtain ⟨T, y1, y2, rfl, h1, q1, q2⟩ := hi j v hj
    obtain ⟨T', e, hl⟩ := hT j _ hj
    injection e with e
    subst e
    exact ⟨T, y1, y2, rfl, oth _ _ (lo_ne l5 hl) (kk _ _ (lo_ne l1 hl) (lo_ne l2 hl) (lo_ne l3 hl) (lo_ne l4 hl) h1), q1, q2⟩
  ·intro j v hj
   rw [Array.getElem?_push] at hj
   split at hj
   ·cases hj; exact ⟨_, rfl, hsz⟩
   ·exact hT j v hj
  ·intro h2 tk2 acc' c' k2 hS2 ha2 hi2 hr2
   refine hR h2 tk2 acc' c' (fun b o hb e => k2 b o hb (oth b o ?_ ?_)) hS2 ha2 hi2 hr2
   ·intro q; subst q; simp at hb
   ·simp only [List.mem_cons, List.not_mem_nil, or_false, not_or] at hb
    exact kk b o hb.1 hb.2.1 hb.2.2.1 hb.2.2.2.1 e
end
theorem zip_no_len : typeLookup (.type "zip") "__len__" = pure none := by rw [typeLookup_type, builtinLookup_eq_fast]; kernel_rfl
theorem zip_no_hint : typeLookup (.type "zip") "__length_hint__" = pure none := by rw [typeLookup_type, builtinLookup_eq_fast]; kernel_rfl
section
variable {prog : Program} {w : World} {A : Around} {E : Value → Shared → Prop} {s : Shared} {z TI TO i1 i2 : Addr} {f1 : List Addr} {n : Nat} {P1 : Nat → Value → Prop} {S1 : Nat → Heap → Prop} {f2 : List Addr} {P2 : Nat → Value → Prop} {S2 : Nat → Heap → Prop}
theorem call_list_zip {Q : Value → Shared → Prop} (L : ZA2 z TI TO i1 i2 f1 f2) (D1 : Draws prog w A.in1.in1.in1 i1 f1 n P1 S1) (D2 : Draws prog w A.in1.in1.in1 i2 f2 n P2 S2) (st : ZpSt s.heap z TI TO i1 i2 S1 S2 0) (hn : n ≤ 10000)
  (hf1 : ∀ b ∈ f1, b < s.heap.objs.size) (hf2 : ∀ b ∈ f2, b < s.heap.objs.size) (hb : z < s.heap.objs.size ∧ TI < s.heap.objs.size ∧ TO < s.heap.objs.size ∧ i1 < s.heap.objs.size ∧ i2 < s.heap.objs.size) (hself : ∀ (A : Around) (s' : Shared) (Q : Value → Shared → Prop) (E : Value → Shared → Prop), (∃ f0, IsZip s'.heap z TI TO f0) → Q (.ref z) s' → wpAny (model prog w) A (pyIter (.ref z)) Q E s')
  (hQ : ∀ h' tk acc' c', (∀ b o, b ∉ [z, TO, i1, i2] → s.heap.get? b = some o → h'.get? b = some o) → h'.get? s.heap.objs.size = some (LsO acc' c') → acc'.size = n → ZpIt P1 P2 h' acc' → (∃ hi, Rise (s.heap.objs.size + 1) hi acc') → Q (.ref s.heap.objs.size) { s with heap := h', toks := tk }) :
  wpAny (model prog w) A (call (.type "list") [.ref z]) Q E s := by
 refine callType_codes (Q₁ := fun obj s₁ => obj = .ref s.heap.objs.size ∧ s₁ = { s with heap := s.heap.push { cls := .type "list", data := .seq #[] } }) F.called_list (F.typeCall_list_1 _) F.entry_list_init (code_list_new _ ⟨rfl, rfl⟩) fun obj s₁ h₁ => ?_
 obtain ⟨rfl, rfl⟩ := h₁
 have hS : (s.heap.push { cls := .type "list", data := .seq #[] }).get? s.heap.objs.size = some { cls := .type "list", data := .seq #[] } := Heap.get?_push_size _ rfl
 have up : ∀ b o, s.heap.get? b = some o → (s.heap.push { cls := .type "list", data := .seq #[] }).get? b = some o := fun b o e => Heap.get?_push_of_some _ e
 obtain ⟨b1, b2, b3, b4, b5⟩ := hb
 have n1 : s.heap.objs.size ∉ f1 := fun q => Nat.lt_irrefl _ (hf1 _ q)
 have n2 : s.heap.objs.size ∉ f2 := fun q => Nat.lt_irrefl _ (hf2 _ q)
 have ne : ∀ {b}, b < s.heap.objs.size → b ≠ s.heap.objs.size := fun h => Nat.ne_of_lt h
 refine ⟨⟨_, hS, rfl⟩, F.args_list_init_2 _ _, ?_⟩
 show wpAny _ A.in1.in1 (do let old ← Builtin.List.listItems (.ref s.heap.objs.size); Builtin.List.listUpdate (.ref s.heap.objs.size) (fun _ => #[]); letGo old.toList.reverse; Builtin.List.listExtendWith (.ref s.heap.objs.size) (.ref z) .none) _ _ _
 refine wpAny_bind ?_
 unfold Builtin.List.listItems
 refine wpAny_bind (wpAny_seqItems hS rfl (wpAny_pure ?_))
 show wpAny _ A.in1.in1 (updateSeq s.heap.objs.size (fun _ => #[]) >>= fun _ => letGo (#[] : Array Value).toList.reverse >>= fun _ => Builtin.List.listExtendWith (.ref s.heap.objs.size) (.ref z) .none) _ _ _
 refine wpAny_bind (wpAny_updateSeq hS rfl ?_)
 have hS₂ := Heap.get?_update_self (Obj.mapSeq (fun _ => (#[] : Array Value))) hS rfl
 have oth : ∀ b o, b ≠ s.heap.objs.size → s.heap.get? b = some o → ((s.heap.push { cls := .type "list", data := .seq #[] }).update s.heap.objs.size (Obj.mapSeq (fun _ => (#[] : Array Value)))).get? b = some o :=
  fun b o hb e => (Heap.get?_update_other _ _ (Ne.symm hb)).trans (up b o e)
 generalize hg : (s.heap.push { cls := .type "list", data := .seq #[] }).update s.heap.objs.size (Obj.mapSeq (fun _ => (#[] : Array Value))) = g at hS₂ oth
 have hS3 : ∃ c, g.get? s.heap.objs.size = some (LsO #[] c) := ⟨_, hS₂⟩
 obtain ⟨c0, hS3⟩ := hS3
 have k0 : ∀ b o, s.heap.get? b = some o → g.get? b = some o := fun b o e => oth b o (Nat.ne_of_lt (Heap.lt_size e)) e
 have st2 : ZpSt g z TI TO i1 i2 S1 S2 0 := by
  obtain ⟨hTI, s1, s2, hc⟩ := st
  refine ⟨k0 _ _ hTI, D1.frame _ _ _ s1 fun b _ o e => k0 b o e, D2.frame _ _ _ s2 fun b _ o e => k0 b o e, ?_⟩
  rcases hc with ⟨h0, hz, a1, a2, hO⟩ | ⟨h0, _⟩
  ·exact .inl ⟨h0, k0 _ _ hz, a1, a2, k0 _ _ hO⟩
  ·exact absurd h0 (Nat.lt_irrefl _)
 have hz2 : ∃ f0, IsZip g z TI TO f0 := by
  rcases st2.2.2.2 with ⟨_, hz, _⟩ | ⟨h0, _⟩
  ·exact ⟨_, hz⟩
  ·exact absurd h0 (Nat.lt_irrefl _)
 have hT : Shared.TypeIs { s with heap := g } (.ref z) "zip" := by obtain ⟨f0, hz⟩ := hz2; exact ⟨_, hz, rfl⟩
 refine wpAny_bind (wpAny_letGo ?_)
 unfold Builtin.List.listExtendWith
 refine wpAny_bind (wpAny_typeOf hT ?_)
 have h1 : Builtin.List.listSameRef (.ref s.heap.objs.size) (.ref z) = false := by simp [Builtin.List.listSameRef, Ne.symm (ne b1)]
 have h2 : (Value.type "zip" == Value.type "list") = false := by decide
 have h3 : (Value.type "zip" == Value.type "tuple") = false := by decide
 simp only [h1, h2, h3, Bool.or_false, Bool.false_eq_true, if_false]
 refine wpAny_bind (hself _ _ _ _ hz2 ?_)
 refine wpAny_bind (wpAny_holding ?_)
 unfold Builtin.List.listLengthHint
 refine wpAny_bind (wpAny_specialOf hT zip_no_len ?_)
 show wpAny _ A.in1.in1 (specialOf (Value.ref z) (Str.ofString "__length_hint__") >>= _) _ _ _
 refine wpAny_bind (wpAny_specialOf hT zip_no_hint ?_)
 refine wpAny_pure ?_
 rw [if_pos (by rfl)]
 refine wpAny_bind (wpAny_rule (wpAny_bind ?_))
 show wpAny _ A.in1.in1 (updateSeq s.heap.objs.size (·.push .none) >>= fun _ => updateSeq s.heap.objs.size (·.pop)) _ _ _
 refine wpAny_bind (wpAny_updateSeq hS3 rfl ?_)
 have hS5 := Heap.get?_update_self (Obj.mapSeq (·.push Value.none)) hS3 rfl
 refine wpAny_updateSeq (hz := by seq_fits) hS5 rfl ?_
 have hS6 := Heap.get?_update_self (Obj.mapSeq (·.pop)) hS5 rfl
 have oth2 : ∀ b o, b ≠ s.heap.objs.size → g.get? b = some o → ((g.update s.heap.objs.size (Obj.mapSeq (·.push Value.none))).update s.heap.objs.size (Obj.mapSeq (·.pop))).get? b = some o :=
  fun b o hb e => (Heap.get?_update_other _ _ (Ne.symm hb)).trans ((Heap.get?_update_other _ _ (Ne.symm hb)).trans e)
 generalize hg2 : ((g.update s.heap.objs.size (Obj.mapSeq (·.push Value.none))).update s.heap.objs.size (Obj.mapSeq (·.pop))) = g2 at hS6 oth2
 obtain ⟨c6, hS7⟩ : ∃ c, g2.get? s.heap.objs.size = some (LsO #[] c) := ⟨_, hS6⟩
 have st3 := st2.keep D1 D2 hS3 rfl oth2 n1 n2 (ne b1) (ne b2) (ne b3)
 refine wpAny_pure ⟨plainId_quiet F.plain_extend_loop _, zp_loop (A := A.in1) (lo := s.heap.objs.size + 1) L D1 D2 (by simp only [List.mem_cons, List.not_mem_nil, or_false, not_or]; exact ⟨Ne.symm (ne b1), Ne.symm (ne b2), Ne.symm (ne b3), Ne.symm (ne b4), Ne.symm (ne b5)⟩) n1 n2 hn .none
  ⟨Nat.lt_succ_of_lt b1, Nat.lt_succ_of_lt b3, Nat.lt_succ_of_lt b4, Nat.lt_succ_of_lt b5, Nat.lt_succ_self _⟩ n 0 _ #[] c6 (by omega) (Nat.zero_le _) (Heap.lt_size hS7) st3 hS7 rfl (fun j v hj => by simp at hj) (fun j v hj => by simp at hj) ⟨[], rfl, .nil, fun _ z => nomatch z⟩ fun h' tk acc' c' k1 hS4 ha hi hr => ⟨rfl, hQ h' tk acc' c' (fun b o hb e => k1 b o ?_ (oth2 b o (Nat.ne_of_lt (Heap.lt_size e)) (k0 b o e))) hS4 ha hi hr⟩⟩
 simp only [List.mem_cons, List.not_mem_nil, or_false, not_or] at hb ⊢
 exact ⟨hb.1, hb.2.1, hb.2.2.1, hb.2.2.2, Nat.ne_of_lt (Heap.lt_size e)⟩
end
theorem Inv.grown {X : Cx} {pins : List (Addr × Obj)} {σ : St} {H H' : Hp} {s : Shared} {h' : Heap} {t' : Nat} (I : Inv X pins σ H s) (k : ∀ b u, s.heap.get? b = some u → h'.get? b = some u) (sm : Same H H')
  (new : ∀ b o, H' b = some o → H b = some o ∨ (s.heap.objs.size ≤ b ∧ ObjOk X.prog X.w H' h' b o)) (ht : 0 < t') : Inv X pins σ H' { s with heap := h', toks := t' } := by
 refine I.un (H' := H') ⟨fun b u q _ _ _ => k b u q, fun b u q _ _ _ => ⟨u.slots, k b u q⟩, fun b u q n _ => ?_, fun b u q _ => ⟨u, k b u q⟩, fun b xs q => sm _ _ q, fun b o u q => sm _ _ q, fun b n q => sm _ _ q⟩ (fun b o q => ?_) ht
 ·cases e : H' b with
  | none => rfl
  | some o =>
   rcases new b o e with z | ⟨z, _⟩
   ·rw [n] at z; cases z
   ·exact absurd (Heap.lt_size q) (Nat.not_lt.mpr z)
 ·rcases new b o q with z | ⟨_, z⟩
  ·exact (I.hok b o z).stay (fun c v _ e => k c v e) (fun c e => sm _ _ e) (fun c xs e => sm _ _ e) fun c ob u e => sm _ _ e
  ·exact z
def tabZ (H : Hp) (ls : Addr) (ts : List (Nat × V × V)) : Hp := fun b => if b = ls then some (.lst (ts.map fun t => .ref t.1)) else match ts.find? (fun t => t.1 == b) with | some t => some (.tup [t.2.1, t.2.2]) | none => H b
theorem find_own : ∀ {ts : List (Nat × V × V)} {t : Nat × V × V}, (ts.map (·.1)).Pairwise (· < ·) → t ∈ ts → ts.find? (fun q => q.1 == t.1) = some t
 | q :: r, t, hp, ht => by
  rw [List.map_cons, List.pairwise_cons] at hp
  rw [List.find?_cons]
  rcases List.mem_cons.mp ht with e | e
  ·subst e; simp
  ·have : (q.1 == t.1) = false := by
    rw [beq_eq_false_iff_ne]
    exact Nat.ne_of_lt (hp.1 _ (List.mem_map.mpr ⟨t, e, rfl⟩))
   rw [this]
   exact find_own hp.2 e
theorem zp_table {X : Cx} {h' : Heap} {P1 P2 : Nat → Value → Prop} {xs ys : List V} {n lo hi : Nat} {acc : Array Value} (hn : acc.size = n) (hx : xs.length = n) (hy : ys.length = n) (hz : ZpIt P1 P2 h' acc) (hr : Rise lo hi acc)
  (r1 : ∀ i v, P1 i v → ∃ x, xs[i]? = some x ∧ RelV x v) (r2 : ∀ i v, P2 i v → ∃ x, ys[i]? = some x ∧ RelV x v) :
  ∃ ts : List (Nat × V × V), acc.toList = ts.map (fun t => Value.ref t.1) ∧ (ts.map (·.1)).Pairwise (· < ·) ∧ ts.length = n ∧ (∀ (i : Nat) (t : Nat × V × V), ts[i]? = some t → xs[i]? = some t.2.1 ∧ ys[i]? = some t.2.2) ∧ ∀ t ∈ ts, lo ≤ t.1 ∧ ∃ u v, IsTA h' t.1 #[u, v] ∧ RelV t.2.1 u ∧ RelV t.2.2 v := by
 obtain ⟨as, e, p, b⟩ := hr
 have hl : as.length = n := by
  have := congrArg List.length e
  simp at this
  omega
 have hl2 : (xs.zip ys).length = n := by simp [hx, hy]
 refine ⟨as.zip (xs.zip ys), ?_, ?_, by simp [hl, hx, hy], fun i t ht => ?_, fun t ht => ?_⟩
 ·rw [e]
  rw [show (fun t : Nat × V × V => Value.ref t.1) = (fun a => Value.ref a) ∘ Prod.fst from rfl, ← List.map_map, List.map_fst_zip (by omega)]
 ·rw [List.map_fst_zip (by omega)]; exact p
 ·rw [List.getElem?_zip_eq_some, List.getElem?_zip_eq_some] at ht
  exact ht.2
 ·obtain ⟨i, hi, hti⟩ := List.mem_iff_getElem.mp ht
  have ht' : (as.zip (xs.zip ys))[i]? = some t := by rw [← hti]; exact List.getElem?_eq_getElem hi
  rw [List.getElem?_zip_eq_some, List.getElem?_zip_eq_some] at ht'
  obtain ⟨ta, tx, ty⟩ := ht'
  have hacc : acc[i]? = some (.ref t.1) := by
   rw [← Array.getElem?_toList, e, List.getElem?_map, ta]; rfl
  obtain ⟨T, u, v, hT, h1, p1, p2⟩ := hz i _ hacc
  injection hT with hT
  subst hT
  obtain ⟨x, hx1, rx⟩ := r1 i u p1
  obtain ⟨y, hy1, ry⟩ := r2 i v p2
  rw [tx] at hx1
  rw [ty] at hy1
  cases hx1
  cases hy1
  have := b t.1 (List.mem_of_getElem? ta)
  exact ⟨this.1, u, v, h1, rx, ry⟩
theorem reps_tab {K : PySem.W.Frag} {H' : Hp} {A : List Addr} : ∀ {ds es : List Dt} {xs ys : List V} {ts : List (Nat × V × V)}, Reps K (hid H' A) ds xs → Reps K (hid H' A) es ys → ds.length = es.length → ts.length = ds.length →
  (∀ (i : Nat) (t : Nat × V × V), ts[i]? = some t → xs[i]? = some t.2.1 ∧ ys[i]? = some t.2.2) → (∀ t ∈ ts, hid H' A t.1 = some (.tup [t.2.1, t.2.2])) → Reps K (hid H' A) (zipD ds es) (ts.map fun t => .ref t.1)
 | [], es, xs, ys, ts, rx, ry, hl, ht, hi, hh => by
  have : ts = [] := List.length_eq_zero_iff.mp (by simpa using ht)
  subst this
  simp only [zipD, List.zip_nil_left, List.map_nil]
  exact .nil
 | d :: ds, [], xs, ys, ts, rx, ry, hl, ht, hi, hh => by simp at hl
 | d :: ds, e :: es, xs, ys, ts, rx, ry, hl, ht, hi, hh => by
  simp only [Reps] at rx ry
  obtain ⟨x, xr, rfl, r1, r2⟩ := rx
  obtain ⟨y, yr, rfl, q1, q2⟩ := ry
  cases ts with
  | nil => simp at ht
  | cons t tr =>
   have h0 := hi 0 t rfl
   simp at h0
   have ht' := hh t List.mem_cons_self
   rw [← h0.1, ← h0.2] at ht'
   refine .cons (rep_tup ht' (.cons r1 (.cons q1 .nil))) ?_
   exact reps_tab r2 q2 (by simpa using hl) (by simpa using ht) (fun i u hu => by have := hi (i + 1) u (by simpa using hu); simpa using this) fun u hu => hh u (List.mem_cons_of_mem _ hu)
section
variable {X : Cx} {cls : Nat → Addr} {E : XK} {e : Expr} {f : Rho → M Dt} {pos p pt : Pos}
theorem call_isList : CallR X (.builtin "isinstance") (fun xs H Q => ∃ a ys, xs = [.ref a, .ty "list"] ∧ SqL X.K H a ys ∧ Q (.bl true) H) := by
 intro pins s σ H xs us Q I r ⟨a, ys, e, hx, q⟩
 subst e
 obtain ⟨u, t, rfl, ru, rt⟩ := r.two
 cases rt
 obtain rfl : u = Value.ref a := ru
 obtain ⟨its, _, ⟨o, n, e, c, _⟩, _⟩ := I.list hx
 exact IsiPair.list_list e c (fun ht => ⟨.bl _, H, I, rfl, q⟩)
end
end L2
namespace L2
open PySem PySem.Spec PyProof.Rows
section
variable {X : Cx}
def PE0 (X : Cx) (e : Expr) (t : TE) : Prop :=
 ∀ (pins : List (Addr × Obj)) (s : Shared) (σ : St) (H : Hp) (Q : VK), Inv X pins σ H { s with toks := s.toks + 1 } → t σ H Q → wpAny (model X.prog X.w) X.A (eval e X.env) (EPI X pins σ Q) X.xe s
def PA0 (X : Cx) (es : List Expr) (t : TA) : Prop :=
 ∀ (pos : Pos) (pins : List (Addr × Obj)) (s : Shared) (σ : St) (H : Hp) (Q : List V → Hp → Prop), Inv X pins σ H { s with toks := s.toks + 1 } → t σ H Q → wpAny (model X.prog X.w) X.A (spliced (backTo pos (starEach es X.env))) (API X pins σ Q) X.xe s
def PS0 (X : Cx) (st : Stmt) (t : TS) : Prop :=
 ∀ (pins : List (Addr × Obj)) (s : Shared) (σ : St) (H : Hp) (D : Ends), Inv X pins σ H { s with toks := s.toks + 1 } → t D σ H → wpAny (model X.prog X.w) X.A (exec st X.env) (SPI X pins D) X.xe s
def PSs0 (X : Cx) (st : List Stmt) (t : TS) : Prop :=
 ∀ (pins : List (Addr × Obj)) (s : Shared) (σ : St) (H : Hp) (D : Ends), Inv X pins σ H { s with toks := s.toks + 1 } → t D σ H → wpAny (model X.prog X.w) X.A (execs st X.env) (SPI X pins D) X.xe s
theorem PE0.imp {e : Expr} {t t' : TE} (h : PE0 X e t') (i : ∀ σ H Q, t σ H Q → t' σ H Q) : PE0 X e t := fun pins s σ H Q I hw => h pins s σ H Q I (i σ H Q hw)
theorem PA0.imp {e : List Expr} {t t' : TA} (h : PA0 X e t') (i : ∀ σ H Q, t σ H Q → t' σ H Q) : PA0 X e t := fun pos pins s σ H Q I hw => h pos pins s σ H Q I (i σ H Q hw)
theorem PS0.imp {e : Stmt} {t t' : TS} (h : PS0 X e t') (i : ∀ D σ H, t D σ H → t' D σ H) : PS0 X e t := fun pins s σ H D I hw => h pins s σ H D I (i D σ H hw)
theorem PSs0.imp {e : List Stmt} {t t' : TS} (h : PSs0 X e t') (i : ∀ D σ H, t D σ H → t' D σ H) : PSs0 X e t := fun pins s σ H D I hw => h pins s σ H D I (i D σ H hw)
theorem pe0_int {i j pos} : PE0 X (.Constant (.int i) j pos) (tC (.int i)) := fun _ _ _ H _ I h => wpAny_Constant_int ⟨.int i, H, I, ⟨_, rfl⟩, h⟩
section
variable {a b e : Expr} {es : List Expr} {ta tb te : TE} {t : TA} {pos : Pos}
theorem pa0_cons (ha : PE0 X e te) (hr : PA X es t) (hs : starEach (e :: es) X.env = (false, eval e X.env) :: starEach es X.env := by rfl) : PA0 X (e :: es) (tCons te t) := by
 intro pos pins s σ H Q I h
 rw [hs]
 show wpAny _ _ (spliced ((false, eval e X.env) :: backTo pos (starEach es X.env))) _ _ s
 refine Calls.spliced_cons (thn0 (ha pins s σ H _ I h) fun u s1 ⟨x, H1, I1, r1, q1⟩ => ?_)
 exact thn (hr pos pins s1 σ H1 _ I1 q1) fun us s2 ⟨xs, H2, I2, r2, q2⟩ => ⟨x :: xs, H2, I2, .cons r1 r2, q2⟩
theorem ps0_set {i : Nat} {x : Str} {e : Expr} {te : TE} {pos' : Pos} (hN : X.N.Nodup) (hi : X.N[i]? = some x) (hx : Loc X.env.scope x) (he : PE0 X e te) (hs : swapsWith e (some (.Name x pos')) pos.line X.env = pure false := by rfl) (hf : X.fn x = true ∨ X.env.scope.names.lookup x = some .local := by first | exact .inl rfl | exact .inr rfl | assumption) :
  PS0 X (.Assign [.Name x pos'] e pos) (tAsg te (gName i)) := by
 intro pins s σ H D I h
 refine wpAny_Assign_Name (thn0 (he pins s σ H _ I h) fun v s1 ⟨y, H1, I1, r1, q1⟩ => ?_) hs
 exact store_ok I1 hN hi hx r1 (fun s2 I2 => ⟨_, H1, I2, q1⟩) hf
theorem pss0_cons {st : Stmt} {rest : List Stmt} {t u : TS} (h1 : PS0 X st t) (h2 : PSs X rest u) : PSs0 X (st :: rest) (tSeq t u) := by
 intro pins s σ H D I h
 refine wpAny_execs_cons (thn0 (h1 pins s σ H { D with nx := u D } I h) fun f s1 q => ?_)
 cases f with
 | next =>
  obtain ⟨σ', H', I', q⟩ := q
  exact thn (h2 pins s1 σ' H' D I' q) fun _ _ q => q
 | ret v => exact q
 | brk => exact q
 | cont => exact q
end
end
section
variable {X : Cx} {cls : Nat → Addr} {E : XK} {a b c : Expr} {f g h : Rho → M Dt} {pos : Pos} {st : Stmt} {rest : List Stmt} {s t : SM} {fs : Rho → M (List Dt)} {es : List Expr}
abbrev Ev0 (X : Cx) (cls : Nat → Addr) (E : XK) (e : Expr) (f : Rho → M Dt) : Prop := PE0 X e (tM X.K cls E f)
abbrev Av0 (X : Cx) (cls : Nat → Addr) (E : XK) (es : List Expr) (f : Rho → M (List Dt)) : Prop := PA0 X es (tMA X.K cls E f)
abbrev Sv0 (X : Cx) (cls : Nat → Addr) (E : XK) (st : Stmt) (m : SM) : Prop := PS0 X st (sM X.K cls E m)
abbrev Bv0 (X : Cx) (cls : Nat → Addr) (E : XK) (st : List Stmt) (m : SM) : Prop := PSs0 X st (sM X.K cls E m)
theorem ev0_int {i j} : Ev0 X cls E (.Constant (.int i) j pos) (pC (.int i)) := pe0_int.imp fun σ H Q ⟨O, A, ρ, F, q⟩ => q (.int i) H (.refl _) rep_int trivial
theorem av0_cons (hst : isStar a = false) (ha : Ev0 X cls E a f) (hr : Av X cls E es fs) : Av0 X cls E (a :: es) (aCons f fs) := (pa0_cons ha hr (starEach_cons hst)).imp fun σ H Q ⟨O, A, ρ, F, q⟩ => by
 refine ⟨O, A, ρ, F, Rg.bind q fun d _ q1 => ?_⟩
 intro v H1 s1 r1 z1
 refine ⟨O, A, ρ, F.mono s1, Rg.bind (ResA.mono (Q := Q) q1 s1) fun ds _ q2 => ?_⟩
 intro vs H2 s2 r2 z2
 exact q2 (v :: vs) H2 s2 (.cons (r1.mono (s2.hid A)) r2) ⟨z1, z2⟩
theorem sv0_set {i : Nat} {x : Str} {pos' : Pos} (hN : X.N.Nodup) (hi : X.N[i]? = some x) (hx : Loc X.env.scope x) (he : Ev0 X cls E a f) (hs : swapsWith a (some (.Name x pos')) pos.line X.env = pure false := by rfl)
  (hf : X.fn x = true ∨ X.env.scope.names.lookup x = some .local := by first | exact .inl rfl | exact .inr rfl | assumption) : Sv0 X cls E (.Assign [.Name x pos'] a pos) (sAsg f (gNm i)) := (ps0_set hN hi hx he hs hf).imp fun D σ H q => t_asgN (fun _ _ _ z => z) q
theorem bv0_cons (h1 : Sv0 X cls E st s) (h2 : Bv X cls E rest t) : Bv0 X cls E (st :: rest) (sSeq s t) := (pss0_cons h1 h2).imp fun D σ H q => t_seq q
end
section
variable {P : Program} {w : World} {K : PySem.W.Frag} {mg : Str → Option Value} {base : Heap} {cls : Nat → Addr}
theorem fn_of0 {CX : CXT} {k : Nat} {f : Addr} {name qual : Str} {params : Arguments} {body : List Stmt} {scope : Scope} {dV kV doc pm cdv ct oc : Value} {an od : Option Addr}
  {osl : Array (Option Value)} {N ps : List Str} {sp : Sp} (lk : K.lookup f = some ⟨oc, od, .func (PySem.W.fnOf name qual params body scope dV kV doc pm an cdv ct), osl⟩) (hcd : PySem.W.codeIn K cdv qual = true) (S : FnScope N ps scope)
  (len : ∀ vs H Q E, sp vs H Q E → vs.length = ps.length)
  (hbody : ∀ (A : Around) (outer : List Env) (s : Shared) (H : Hp) (vs : List V) (Q : VK) (E : XK), Room k (A.deeper (envOfC qual scope s.heap.objs.size f cdv)) → sp vs H Q E →
   ∃ t, PSs0 (cxOf CX P w K mg base N qual scope f cdv A outer s H E) body t ∧ t { nx := fun _ H' => Q .non H', rt := Q } (start N vs) H) :
  FnOk P w K mg base CX (k + 1) f (PySem.W.fnOf name qual params body scope dV kV doc pm an cdv ct) ps sp := by
 refine ⟨len, fun A outer s H args us vs Q E hr e0 ht0 hb r hsp => ?_⟩
 have hl := len _ _ _ _ hsp
 have KX : K.In s.heap := e0.mod.kin.keeps fun b o e => (e0.bs b o e).1
 have lim : s.heap.NoLimit := e0.mod.nolimit.keeps fun b o e => (e0.bs b o e).1
 have hkind : ∀ y ∈ ps.zip us, scope.names.lookup y.1 = some .local ∨ (scope.names.lookup y.1 = some .cell ∧ ((cellsFrom (s.heap.objs.size + 1) scope.names []).lookup y.1).isSome = true) := fun ⟨n, v⟩ hy => by
  rcases S.par n (List.of_mem_zip hy).1 with q | q
  ·exact .inl q
  ·exact .inr ⟨q, PySem.W.cellsFrom_some _ _ _ (.inl q)⟩
 refine codeAny_call_function hr.depth (KX _ _ lk) rfl S.co S.gen rfl (PySem.W.codeRec_of KX hcd) (hb _ _ _ _ ?_)
 refine wpAny_newFunctionEnv_cells S.kind hkind fun env he s1 x => ?_
 subst he
 refine ⟨lim.keeps x.toInCall.keep, codeAny_func ?_⟩
 obtain ⟨t, ht, hq⟩ := hbody A outer s H vs Q E (hr.deeper _) hsp
 have I : Inv (cxOf CX P w K mg base N qual scope f cdv A outer s H E) [] (start N vs) H { s1 with toks := s1.toks + 1 } := inv_start S hr.hd e0 hl r (x.tok (s1.toks + 1)) (Nat.succ_pos _)
 refine thn0 (ht [] s1 (start N vs) H _ I hq) fun fl s' hs => ?_
 have fin : ∀ {σ' : St} {H' : Hp} {v : V} {u : Value}, Inv (cxOf CX P w K mg base N qual scope f cdv A outer s H E) [] σ' H' s' → RelV v u → Q v H' → CE outer P w H s Q u s' :=
  fun {σ' H' v u} J rv q => ⟨v, H', J.os, J.bare, J.base, J.hok, rv, q⟩
 cases fl with
 | ret u =>
  obtain ⟨v, σ', H', J, rv, q⟩ := hs
  exact fin J rv q
 | next =>
  obtain ⟨σ', H', J, q⟩ := hs
  exact fin (v := V.non) (u := Value.none) J rfl q
 | brk =>
  obtain ⟨_, _, _, q⟩ := hs
  exact False.elim q
 | cont =>
  obtain ⟨_, _, _, q⟩ := hs
  exact False.elim q
end
section
variable {X : Cx} {tg : Expr}
theorem ld_blt0 {E : Value → Shared → Prop} {pins : List (Addr × Obj)} {s : Shared} {t : Nat} {σ : St} {H : Hp} {x : Str} {u : Value} {pos : Pos} {Q : Value → Shared → Prop} (I : Inv X pins σ H { s with toks := t }) (hg : Gl X x) (hm : X.mg x = none) (hv : bootBuiltins x = some u) (h : Q u s)
  (hn : x ≠ "__name__" := by decide) (hd : (x == ("__debug__" : Str)) = false := by decide) : wpAny (model X.prog X.w) X.A (eval (.Name x pos) X.env) Q E s := by
 obtain ⟨mb, h1, h2⟩ := I.mod.blt
 have bk : ∀ b o, X.base.get? b = some o → s.heap.get? b = some o := I.bk
 exact Calls.Name_function_global I.ok.kind hg (Calls.loadGlobal_builtin (by rw [I.ok.glob]; exact I.mod.glob.keeps bk) hm (by rw [I.ok.blt]; exact h1.keeps bk) ((h2 x hn).trans hv) h) hd
def PI0 (X : Cx) (tg iter : Expr) (wi : TI) : Prop :=
 ∀ (pins : List (Addr × Obj)) (s : Shared) (σ : St) (H : Hp) (R : It → Hp → Prop), Inv X pins σ H { s with toks := s.toks + 1 } → wi σ H R →
  wpAny (model X.prog X.w) X.A (eval iter X.env) (fun v s1 => 0 < s1.toks ∧ wpAny (model X.prog X.w) X.A (pyIter v) (Lz (PIE X pins σ tg R)) X.xe s1) X.xe s
theorem PI0.imp {e : Expr} {t t' : TI} (h : PI0 X tg e t') (i : ∀ σ H R, t σ H R → t' σ H R) : PI0 X tg e t := fun pins s σ H R I hw => h pins s σ H R I (i σ H R hw)
theorem pi0_range1 {a : Expr} {ta : TA} {p pos : Pos} (hg : Gl X "range") (hm : X.mg "range" = none) (ha : PA0 X [a] ta) (hs : starEach [a] X.env = [(false, eval a X.env)] := by rfl) : PI0 X tg (.Call (.Name "range" p) [a] [] pos) (iRng1 ta) := by
 intro pins s σ H R I h
 refine Call_ (ld_blt0 I hg hm boot_range (PyProof.Rows.callWith_type1 (thn0 (ha pos pins s σ H _ I h) fun us s1 ⟨vs, H1, I1, r1, q1⟩ => ?_) hs rfl))
 obtain ⟨j, e, q1, q2, q⟩ := q1
 subst e
 cases r1 with
 | cons r rr =>
  cases rr
  obtain ⟨t, rfl⟩ := r
  exact call_range_1 ⟨Nat.succ_pos _, range_it I1 (by omega) (by omega) q1 q2 (by simpa using q)⟩
variable {elt iter : Expr} {ifs : List Expr} {scope : Scope} {N : List Str} {k : Nat} {fr : List Nat} {wi : TI} {g : TG} {tc : TT} {te : TE} {pos : Pos}
theorem pe0_comp (hc : X.calm = true) (S : CScope X scope N k fr) (hi : PI0 X tg iter wi) (hg : ∀ pins fp s H, PG (cxC X scope N pins fp s H) tg g) (ht : ∀ pins fp s H, PTs (cxC X scope N pins fp s H) ifs tc)
  (he : ∀ pins fp s H, PE (cxC X scope N pins fp s H) elt te) (hs : ∀ x, foldedSetIterable iter X.env x = pure x := by intro _; rfl) : PE0 X (.ListComp elt [⟨tg, iter, ifs, 0⟩] scope pos) (tComp k fr wi g tc te) := by
 intro pins s σ H Q I h
 rw [eval_ListComp]
 refine wpAny_comprehension_free (use := none) rfl hs (closureFor_of (S.cells I.ok)) S.kind S.locals (thn0 (hi pins s σ H _ I h) fun v s1 ⟨t1, h1⟩ => thn h1 fun itv s2 h2 => ?_)
 obtain ⟨it, fp, tn, J, H2, e, I2, T, st2, f2, q⟩ := h2
 subst e
 refine blockC (RR := fun acc C => compPost (model X.prog X.w) X.A X.xe none (EPI X pins σ Q) acc C) hc S hg ht he I2 T st2 f2 q ?_
 intro D C s' H' q' _ hn inv
 obtain ⟨m, hn⟩ := hn
 exact ⟨m, hn, fun h' sb => ⟨.ref D, H', inv h' sb, rfl, q'⟩⟩
end
section
variable {X : Cx} {cls : Nat → Addr} {E : XK} {a : Expr} {fs : Rho → M (List Dt)} {pos : Pos} {tg iter elt : Expr} {ifs : List Expr} {scope : Scope} {N : List Str} {k : Nat} {fr : List Nat} {ι : IM} {g : GM} {tc : Rho → M Bool} {te : Rho → M Dt}
abbrev Iv0 (X : Cx) (cls : Nat → Addr) (E : XK) (tg e : Expr) (ι : IM) : Prop := PI0 X tg e (iM X.K cls E ι)
theorem iv0_range1 {p : Pos} (hg : Gl X "range") (hm : X.mg "range" = none) (ha : Av0 X cls E [a] fs) (hs : starEach [a] X.env = [(false, eval a X.env)] := by rfl) : Iv0 X cls E tg (.Call (.Name "range" p) [a] [] pos) (iBy rng1M fs) :=
 (pi0_range1 hg hm ha hs).imp fun σ H R ⟨O, A, ρ, F, q⟩ => by
 refine ⟨O, A, ρ, F, Rg.bind q fun ds hds q1 => ?_⟩
 clear hds
 intro vs H1 s1 r1 z1
 unfold rng1M at q1
 split at q1
 ·rename_i n
  split at q1
  ·rename_i hn
   obtain ⟨v, rfl, rv⟩ := reps1 r1
   refine ⟨n, by rw [repI rv], by omega, by omega, ?_⟩
   have e : n.toNat = (n - 0).toNat := by omega
   rw [e]
   exact q1 _ H1 s1 (itd_r (by omega))
  ·exact (show False from q1).elim
 ·exact (show False from q1).elim
theorem ev0_comp (hk : GK k g) (hc : X.calm = true) (S : CScope X scope N k fr) (hi : Iv0 X cls E tg iter ι) (hg : ∀ pins fp s H, PG (cxC X scope N pins fp s H) tg (gM X.K g)) (ht : ∀ pins fp s H, PTs (cxC X scope N pins fp s H) ifs (tMB X.K cls E0 tc))
  (he : ∀ pins fp s H, PE (cxC X scope N pins fp s H) elt (tM X.K cls E0 te)) (hs : ∀ x, foldedSetIterable iter X.env x = pure x := by intro _; rfl) : Ev0 X cls E (.ListComp elt [⟨tg, iter, ifs, 0⟩] scope pos) (pComp k fr ι g tc te) :=
 (pe0_comp hc S hi hg ht he hs).imp (t_comp hk)
end
end L2
namespace L2
open PySem PySem.Spec PyProof.Rows PySem.W
def FrL (H : Hp) (v : V) (H' : Hp) : Prop := ∃ D ys, v = .ref D ∧ H D = none ∧ H' D = some (.lst ys)
theorem FrL.back {H H1 H' : Hp} {v : V} (h : FrL H1 v H') (s : Same H H1) : FrL H v H' := by
 obtain ⟨D, ys, h1, h2, h3⟩ := h
 exact ⟨D, ys, h1, s.free h2, h3⟩
section
variable (K : PySem.W.Frag) (cls : Nat → Addr) (A : List Addr) (E : XK)
def ResF (m : M Dt) (H : Hp) (Q : VK) : Prop := Rg cls E m H fun d => ∀ v H', Same H H' → Rep K (hid H' A) d v → sm d → FrL H v H' → Q v H'
def tMF (f : Rho → M Dt) : TE := fun σ H Q => ∃ O A ρ, Fit K O A ρ σ H ∧ ResF K cls A E (f ρ) H Q
end
theorem Res.toF {K : PySem.W.Frag} {cls : Nat → Addr} {A : List Addr} {E : XK} {m : M Dt} {H : Hp} {Q : VK} (h : Res K cls A E m H Q) : ResF K cls A E m H Q := Rg.ok h fun d _ p v H' s r z _ => p v H' s r z
theorem ResF.mono {K : PySem.W.Frag} {cls : Nat → Addr} {A : List Addr} {E : XK} {m : M Dt} {H H' : Hp} {Q : VK} (h : ResF K cls A E m H Q) (s : Same H H') : ResF K cls A E m H' Q := Rg.heap h s fun d _ p v H2 s2 r z f => p v H2 (s.trans s2) r z (f.back s)
abbrev EvF (X : Cx) (cls : Nat → Addr) (E : XK) (e : Expr) (f : Rho → M Dt) : Prop := PE X e (tMF X.K cls E f)
theorem rdComp_fresh {k : Nat} {fr : List Nat} {g : TG} {tc : TT} {te : TE} {σ : St} {J : It} {H1 : Hp} {Q : VK} (h : rdComp k fr g tc te σ J H1 (fun v H' => FrL H1 v H' → Q v H')) : rdComp k fr g tc te σ J H1 Q := by
 intro D hD
 obtain ⟨W, h0, hs⟩ := h D hD
 refine ⟨W, h0, fun i m ys σ' H' hw => ?_⟩
 obtain ⟨h1, h2⟩ := hs i m ys σ' H' hw
 refine ⟨h1, ?_⟩
 rcases h2 with ⟨a, b⟩ | h2
 ·exact .inl ⟨a, b ⟨D, ys, rfl, hD, h1⟩⟩
 ·exact .inr h2
section
variable {X : Cx} {cls : Nat → Addr} {E : XK} {tg iter elt : Expr} {ifs : List Expr} {scope : Scope} {N : List Str} {k : Nat} {fr : List Nat} {ι : IM} {g : GM} {tc : Rho → M Bool} {te : Rho → M Dt} {pos : Pos}
theorem t_compF (hk : GK k g) (σ : St) (H : Hp) (Q : VK) (q : tMF X.K cls E (pComp k fr ι g tc te) σ H Q) : tComp k fr (iM X.K cls E ι) (gM X.K g) (tMB X.K cls E0 tc) (tM X.K cls E0 te) σ H Q := by
 obtain ⟨O, A, ρ, F, q⟩ := q
 refine ⟨O, A, ρ, F, Rg.bind q fun ds _ q1 => ?_⟩
 intro J H1 s1 hJ
 cases hm : comM g tc te (startR k fr ρ) ds with
 | ok xs =>
  have q2 : ResF X.K cls A E (szL xs) H Q := by rw [hm] at q1; exact q1
  refine rdComp_fresh (rd_comp (F.mono s1) hk hJ hm fun v H' s' r z zl fr => ?_)
  unfold szL at q2
  rw [if_pos zl] at q2
  exact q2 v H' (s1.trans s') r ⟨zl, z⟩ (fr.back s1)
 | ex c => rw [hm] at q1; exact (show False from q1).elim
 | bad => rw [hm] at q1; exact (show False from q1).elim
theorem ev_compF (hk : GK k g) (hc : X.calm = true) (S : CScope X scope N k fr) (hi : Iv X cls E tg iter ι) (hg : ∀ pins fp s H, PG (cxC X scope N pins fp s H) tg (gM X.K g)) (ht : ∀ pins fp s H, PTs (cxC X scope N pins fp s H) ifs (tMB X.K cls E0 tc))
  (he : ∀ pins fp s H, PE (cxC X scope N pins fp s H) elt (tM X.K cls E0 te)) (hs : ∀ x, foldedSetIterable iter X.env x = pure x := by intro _; rfl) : EvF X cls E (.ListComp elt [⟨tg, iter, ifs, 0⟩] scope pos) (pComp k fr ι g tc te) :=
 (pe_comp hc S hi hg ht he hs).imp (t_compF hk)
end
def NoRt (s : SM) : Prop := ∀ ρ d, s ρ ≠ .ok (.rt d)
theorem nr_skip : NoRt sSkip := fun ρ d h => by cases h
theorem nr_asg {f : Rho → M Dt} {g : GM} : NoRt (sAsg f g) := fun ρ d h => by
 unfold sAsg at h
 cases hf : f ρ with
 | ok e =>
  rw [hf] at h
  have h' : (g e ρ).calm.bd (fun ρ' => M.ok (Fl.nx ρ')) = M.ok (Fl.rt d) := h
  cases hg : (g e ρ).calm with
  | ok r => rw [hg] at h'; cases h'
  | ex c => rw [hg] at h'; cases h'
  | bad => rw [hg] at h'; cases h'
 | ex c => rw [hf] at h; cases h
 | bad => rw [hf] at h; cases h
theorem nr_drop {f : Rho → M Dt} : NoRt (sDrop f) := fun ρ d h => by
 unfold sDrop at h
 cases hf : f ρ with
 | ok e => rw [hf] at h; cases h
 | ex c => rw [hf] at h; cases h
 | bad => rw [hf] at h; cases h
theorem nr_rz {c : Nat} {f : Rho → M Unit} : NoRt (sRz c f) := fun ρ d h => by
 unfold sRz at h
 cases hf : f ρ with
 | ok e => rw [hf] at h; cases h
 | ex c => rw [hf] at h; cases h
 | bad => rw [hf] at h; cases h
theorem nr_if {c : Rho → M Bool} {s t : SM} (h1 : NoRt s) (h2 : NoRt t) : NoRt (sIf c s t) := fun ρ d h => by
 unfold sIf at h
 cases hf : c ρ with
 | ok e =>
  rw [hf] at h
  have h' : (if e = true then s ρ else t ρ) = M.ok (Fl.rt d) := h
  split at h'
  ·exact h1 _ _ h'
  ·exact h2 _ _ h'
 | ex c => rw [hf] at h; cases h
 | bad => rw [hf] at h; cases h
def sMF (K : PySem.W.Frag) (cls : Nat → Addr) (E : XK) (f : SM) : TS := fun D σ H => ∃ Hin A₀ ρ, Stt K Hin A₀ ρ σ H ∧ SRes K cls E Hin A₀ (f ρ) { D with rt := fun v H' => FrL Hin v H' → D.rt v H' }
abbrev BvF (X : Cx) (cls : Nat → Addr) (E : XK) (st : List Stmt) (f : SM) : Prop := PSs X st (sMF X.K cls E f)
theorem resF_of {K : PySem.W.Frag} {cls : Nat → Addr} {E : XK} {Hin : Hp} {A₀ : List Addr} {H : Hp} {D : Ends} {m : M Dt} {k : Dt → M Fl} {os : List Addr} {Q : VK} (s0 : Same Hin H) (h : SRes K cls E Hin A₀ (m.bd k) D)
  (f : ∀ d v H', m = .ok d → SRes K cls E Hin A₀ (k d) D → Same H H' → Rep K (hid H' (os ++ A₀)) d v → sm d → FrL H v H' → Q v H') : ResF K cls (os ++ A₀) E m H Q := by
 cases m with
 | ok d => exact fun v H' s r z fr => f d v H' rfl h s r z fr
 | ex c => exact fun H' s => h H' (s0.trans s)
 | bad => exact h
section
variable {X : Cx} {cls : Nat → Addr} {E : XK} {a : Expr} {f : Rho → M Dt} {pos : Pos} {st : Stmt} {rest : List Stmt} {s t : SM}
theorem bvF_ret (he : EvF X cls E a f) : BvF X cls E [.Return (some a) pos] (sRet f) := (pss_one (ps_ret he)).imp fun D σ H ⟨Hin, A₀, ρ, ⟨os, s0, L0, fr, F⟩, q⟩ =>
 ⟨os, os ++ A₀, ρ, F, resF_of s0 q fun d v H' _ q1 s' r z fl => q1 v H' (s0.trans s') (r.mono hid_app) z (fl.back s0)⟩
theorem bvF_cons (hn : NoRt s) (h1 : Sv X cls E st s) (h2 : BvF X cls E rest t) : BvF X cls E (st :: rest) (sSeq s t) := (pss_cons h1 h2).imp fun D σ H q => by
 obtain ⟨Hin, A₀, ρ, S, q⟩ := q
 refine ⟨Hin, A₀, ρ, S, ?_⟩
 unfold sSeq at q
 cases hm : s ρ with
 | ok fl =>
  rw [hm] at q
  cases fl with
  | nx ρ' => exact fun σ' H' S' => ⟨Hin, A₀, ρ', S', q⟩
  | bk ρ' => exact q
  | ct ρ' => exact q
  | rt d => exact (hn ρ d hm).elim
 | ex c => rw [hm] at q; exact q
 | bad => rw [hm] at q; exact q
def spMF (K : PySem.W.Frag) (cls : Nat → Addr) (F : List Dt → M Dt) : Sp := fun vs H Q E => ∃ A ds, Liv H A ∧ Reps K (hid H A) ds vs ∧ sms ds ∧ ResF K cls A E (F ds) H Q
theorem Cal.anew {P : Program} {w : World} {K : PySem.W.Frag} {mg : Str → Option Value} {base : Heap} {CX : CXT} {k : Nat} {x : Str} {ps : List Str} {F : List Dt → M Dt} (C : Cal P w K mg base CX k x ps (spMF K cls F)) : Cal P w K mg base CX k x ps (spM K cls F) := by
 obtain ⟨f, fd, h1, h2⟩ := C
 exact ⟨f, fd, h1.imp fun vs H Q E ⟨A, ds, L, r, z, q⟩ => ⟨A, ds, L, r, z, q.toF⟩, h2⟩
theorem ev_calF {k : Nat} {x : Str} {ps : List Str} {p : Pos} {CX : CXT} {F' : List Dt → M Dt} {es : List Expr} {fs : Rho → M (List Dt)} (C : Cal X.prog X.w X.K X.mg X.base CX k x ps (spMF X.K cls F')) (hr : Room k X.A) (hx : Passes CX X E) (ha : Av X cls E (a :: es) fs) (hst : isStar a = false := by rfl) (hg : Gl X x := by rfl)
  (hdb : (x == ("__debug__" : Str)) = false := by decide) (hpl : (backTo pos (starEach es X.env)).any (·.1) = false := by rfl) : EvF X cls E (.Call (.Name x p) (a :: es) [] pos) (pCall F' fs) :=
 (pe_cal C hr hx ha hst hg hdb hpl).imp fun σ H Q ⟨O, A, ρ, F, q⟩ => by
 refine ⟨O, A, ρ, F, Rg.bind q fun ds _ q1 => ?_⟩
 intro vs H1 s1 r1 z1
 rw [List.append_nil]
 exact ⟨A, ds, F.liv.mono s1, r1, z1, ResF.mono q1 s1⟩
end
section
variable {P : Program} {w : World} {K : PySem.W.Frag} {mg : Str → Option Value} {base : Heap} {cls : Nat → Addr}
theorem fn_okF {x qual : Str} {st : Stmt} {f : Addr} {fd : FuncData} {N ps : List Str} {k np n : Nat} {b : SM} (F : Fun K x qual st f fd) (S : FnScope N ps (defScope st)) (hp : ps.length = np) (hn : N.length = np + n)
  (hbody : ∀ (cdv : Value) (A : Around) (outer : List Env) (s : Shared) (H : Hp) (E : XK), Room k (A.deeper (envOfC qual (defScope st) s.heap.objs.size f cdv)) →
   Rz (cxOf (CX1 P w) P w K mg base N qual (defScope st) f cdv A outer s H E) E → BvF (cxOf (CX1 P w) P w K mg base N qual (defScope st) f cdv A outer s H E) cls E (defBody st) b) (hno : ∀ ρ ρ', b ρ ≠ .ok (.nx ρ')) (hf : ps = [lawS] → (defScope st).names.lookup lawS = some .local := by first | assumption | decide +kernel) :
  FnOk P w K mg base (CX1 P w) (k + 1) f fd ps (spMF K cls (fnM np n b)) := by
 have len : ∀ vs H Q E, spMF K cls (fnM np n b) vs H Q E → vs.length = np := fun vs H Q E ⟨A, ds, L, r, z, q⟩ => by
  unfold fnM at q
  split at q
  ·rename_i hl
   rw [← r.length]
   exact hl
  ·exact (show False from q).elim
 refine F.okX S (fun vs H Q E h => by rw [hp]; exact len vs H Q E h) fun cdv A outer s H vs Q E hr h R => ?_
 have hv := len vs H Q E h
 refine ⟨_, hbody cdv A outer s H E hr R, ?_⟩
 obtain ⟨B, ds, L, r, z, q⟩ := h
 refine ⟨H, B, ds.map Bd.val ++ List.replicate n .no, ⟨[], .refl _, L, (fun a z => nomatch z), ?_⟩, ?_⟩
 ·have e : start N vs = vs.map some ++ List.replicate n none := by
   unfold start
   rw [hn, hv, Nat.add_sub_cancel_left]
  rw [e]
  exact fn_start L r z n
 ·unfold fnM at q
  split at q
  ·cases hm : b (ds.map Bd.val ++ List.replicate n .no) with
   | ok fl =>
    rw [hm] at q
    cases fl with
    | nx ρ => exact (hno _ _ hm).elim
    | rt d => exact fun v H' s' r' z' fl => q v H' s' r' z' fl
    | bk ρ => exact (show False from q).elim
    | ct ρ => exact (show False from q).elim
   | ex c => rw [hm] at q; exact q
   | bad => rw [hm] at q; exact q
  ·exact (show False from q).elim
theorem nx_ret {f : Rho → M Dt} : ∀ ρ ρ', sRet f ρ ≠ .ok (.nx ρ') := fun ρ ρ' h => by
 unfold sRet at h
 cases hf : f ρ with
 | ok e => rw [hf] at h; cases h
 | ex c => rw [hf] at h; cases h
 | bad => rw [hf] at h; cases h
theorem nx_seq {s t : SM} (ht : ∀ ρ ρ', t ρ ≠ .ok (.nx ρ')) : ∀ ρ ρ', sSeq s t ρ ≠ .ok (.nx ρ') := fun ρ ρ' h => by
 unfold sSeq at h
 cases hf : s ρ with
 | ok fl =>
  rw [hf] at h
  cases fl with
  | nx r => exact ht _ _ h
  | bk r => cases h
  | ct r => cases h
  | rt d => cases h
 | ex c => rw [hf] at h; cases h
 | bad => rw [hf] at h; cases h
end
section
variable {X : Cx} {cls : Nat → Addr} {E : XK} {a b e : Expr} {f g : Rho → M Dt} {pos pos2 pl pz : Pos}
theorem ev_lzipF (hc : X.calm = true) (hgl : Gl X "list") (hml : X.mg "list" = none) (hgz : Gl X "zip") (hmz : X.mg "zip" = none) (ha : Ev X cls E a f) (hb : Ev X cls E b g) (hsa : isStar a = false) (hsb : isStar b = false) :
  EvF X cls E (.Call (.Name "list" pl) [.Call (.Name "zip" pz) [a, b] [] pos2] [] pos) (p2 oLzip f g) := by
 intro pins s σ H Q I ⟨O, A, ρ, FF, q⟩
 refine wpAny_Call_Name_kw (ld_blt I hgl hml boot_list ?_ (by decide) (by decide))
 refine PyProof.Rows.callWith_type1 (e := .Call (.Name "zip" pz) [a, b] [] pos2) (rest := []) ?_ rfl rfl
 refine Calls.spliced_cons (x := eval (.Call (.Name "zip" pz) [a, b] [] pos2) X.env) ?_
 refine wpAny_Call_Name_kw (ld_blt I hgz hmz boot_zip ?_ (by decide) (by decide))
 refine PyProof.Rows.callWith_type1 (e := a) (rest := [b]) ?_ (starEach_cons hsa) (by rw [starEach_cons hsb]; rfl)
 rw [starEach_cons hsa, starEach_cons hsb]
 refine Calls.spliced_cons (x := eval a X.env) (thn (ha pins s σ H (fun x H1 => ∃ d1, Same H H1 ∧ Rep X.K (hid H1 A) d1 x ∧ sm d1 ∧ ResF X.K cls A E ((g ρ).bd fun y => oLzip d1 y) H1 Q) I ⟨O, A, ρ, FF, Rg.bind q fun d _ q1 => ?_⟩) fun u1 s1 ⟨x1, H1, I1, r1, d1, sm1, rp1, zd1, q1⟩ => ?_)
 ·intro x H1 s1 r1 z1
  exact ⟨d, s1, r1, z1, ResF.mono q1 s1⟩
 refine Calls.spliced_cons (x := eval b X.env) (thn (hb pins s1 σ H1 (fun x H2 => ∃ d2, Same H1 H2 ∧ Rep X.K (hid H2 A) d2 x ∧ sm d2 ∧ ResF X.K cls A E (oLzip d1 d2) H2 Q) I1 ⟨O, A, ρ, FF.mono sm1, Rg.bind q1 fun d _ q2 => ?_⟩) fun u2 s2 ⟨x2, H2, I2, r2, d2, sm2, rp2, zd2, q2⟩ => ?_)
 ·intro x H2 s2 r2 z2
  exact ⟨d, s2, r2, z2, ResF.mono q2 s2⟩
 refine Calls.spliced_nil ?_
 have rp1' := rp1.mono (sm2.hid A)
 cases d1 with
 | lst ds =>
  cases d2 with
  | lst es =>
   simp only [oLzip] at q2
   split at q2
   ·rename_i hlen
    obtain ⟨l1, xs, rfl, hx1, hx2⟩ := repL rp1'
    obtain ⟨l2, ys, rfl, hy1, hy2⟩ := repL rp2
    obtain rfl : u1 = Value.ref l1 := r1
    obtain rfl : u2 = Value.ref l2 := r2
    obtain ⟨us1, c1, m1, k1⟩ := Src.use I2 (sc := .L l1) (hid_same.seq hx1)
    obtain ⟨us2, c2, m2, k2⟩ := Src.use I2 (sc := .L l2) (hid_same.seq hy1)
    have lt1 : l1 < s2.heap.objs.size := by obtain ⟨o, e, _⟩ := id c1; exact Heap.lt_size e
    have lt2 : l2 < s2.heap.objs.size := by obtain ⟨o, e, _⟩ := id c2; exact Heap.lt_size e
    refine callType_new F.called_zip (by decide) (F.typeCall_zip_2 _ _) (F.newCall_zip_2 _ _) (fun obj => F.args_object_init_3 obj _ _) F.entry_zip_new (mz2 (.L l1) (.L l2)) ⟨⟨_, c1⟩, ⟨_, c2⟩, ?_⟩
    obtain ⟨zA, zB, z1, z2⟩ := len_z2 s2.heap (.L l1) (.L l2)
    have gz : (zC2 s2.heap (.L l1) (.L l2)).get? (zB2 s2.heap (.L l1) (.L l2)).objs.size = some _ := Heap.get?_push_size _ rfl
    have gO : (zC2 s2.heap (.L l1) (.L l2)).get? (zA2 s2.heap (.L l1) (.L l2)).objs.size = some _ := Heap.get?_push_of_some _ (Heap.get?_push_size _ rfl)
    have gI : (zC2 s2.heap (.L l1) (.L l2)).get? (((s2.heap.push (Src.L l1).obj).push (Src.L l2).obj)).objs.size = some _ := Heap.get?_push_of_some _ (Heap.get?_push_of_some _ (Heap.get?_push_size _ rfl))
    have g1 : (zC2 s2.heap (.L l1) (.L l2)).get? (s2.heap).objs.size = some (Src.L l1).obj := (Heap.get?_push_of_some _ (Heap.get?_push_of_some _ (Heap.get?_push_of_some _ (Heap.get?_push_of_some _ (Heap.get?_push_size _ rfl)))))
    have g2 : (zC2 s2.heap (.L l1) (.L l2)).get? ((s2.heap.push (Src.L l1).obj)).objs.size = some (Src.L l2).obj := (Heap.get?_push_of_some _ (Heap.get?_push_of_some _ (Heap.get?_push_of_some _ (Heap.get?_push_size _ rfl))))
    have kk' : ∀ c o, s2.heap.get? c = some o → (zC2 s2.heap (.L l1) (.L l2)).get? c = some o := fun c o x => (Heap.get?_push_of_some _ (Heap.get?_push_of_some _ (Heap.get?_push_of_some _ (Heap.get?_push_of_some _ (Heap.get?_push_of_some _ x)))))
    rw [zB, zA, z2] at gz
    rw [zA] at gO
    rw [z2, z1] at gI
    rw [z1] at g2
    rw [zB]
    have ne : ∀ i j : Nat, i ≠ j → s2.heap.objs.size + i ≠ s2.heap.objs.size + j := fun i j h z => h (Nat.add_left_cancel z)
    have L : ZA2 (s2.heap.objs.size + 4) (s2.heap.objs.size + 2) (s2.heap.objs.size + 3) (s2.heap.objs.size) (s2.heap.objs.size + 1) ((Src.L l1).fp (s2.heap.objs.size)) ((Src.L l2).fp (s2.heap.objs.size + 1)) := by
     have lt1' : (Src.L l1).lt s2.heap.objs.size := lt1
     have lt2' : (Src.L l2).lt s2.heap.objs.size := lt2
     constructor
     all_goals first | exact ne _ _ (by decide) | exact ne 0 _ (by decide) | exact ne _ 0 (by decide) | exact Src.not_fp lt1' (Nat.le_add_right _ _) (by first | exact ne _ _ (by decide) | exact ne 0 _ (by decide) | exact ne _ 0 (by decide)) | exact Src.not_fp lt2' (Nat.le_add_right _ _) (by first | exact ne _ _ (by decide) | exact ne 0 _ (by decide) | exact ne _ 0 (by decide)) | exact Src.not_fp lt2' (Nat.le_refl _) (by first | exact ne _ _ (by decide) | exact ne 0 _ (by decide) | exact ne _ 0 (by decide))
    generalize hzc : zC2 s2.heap (.L l1) (.L l2) = hc2 at gz gO gI g1 g2 kk'
    have hlt : s2.heap.objs.size + 4 < hc2.objs.size := Heap.lt_size gz
    refine ⟨⟨_, gz, rfl⟩, Calls.spliced_nil ?_⟩
    have hl1 := hx2.length
    have hl2 := hy2.length
    have D1 := Src.draws (prog := X.prog) (w := X.w) (A := X.A.in1.in1.in1) (by simpa using I2.ok.hd hc) (.L l1) (j := s2.heap.objs.size) lt1 us1
    have D2 := Src.draws (prog := X.prog) (w := X.w) (A := X.A.in1.in1.in1) (by simpa using I2.ok.hd hc) (.L l2) (j := s2.heap.objs.size + 1) (Nat.lt_succ_of_lt lt2) us2
    rw [m1] at D1
    rw [m2, ← hl2, ← hlen, hl1] at D2
    have cc1 : (Src.L l1).con us1 hc2 := by obtain ⟨o, e, r⟩ := c1; exact ⟨o, kk' _ _ e, r⟩
    have cc2 : (Src.L l2).con us2 hc2 := by obtain ⟨o, e, r⟩ := c2; exact ⟨o, kk' _ _ e, r⟩
    have big : ∀ {b}, b ≤ s2.heap.objs.size + 4 → b < hc2.objs.size := fun h => Nat.lt_of_le_of_lt h hlt
    refine wpAny_with_toks (n := 1) I2.tk ?_
    refine call_list_zip (s := { s2 with heap := hc2 }) L D1 D2 ⟨gI, ⟨⟨_, g1, rfl, rfl⟩, cc1⟩, ⟨⟨_, g2, rfl, rfl⟩, cc2⟩, .inl ⟨rfl, gz, _, _, gO⟩⟩ (by have := zd1.1; omega) ?_ ?_ ?_ (fun A' s' Q' E' ⟨f0, hz⟩ hq => wpAny_pyIter_zip hz hq) fun h' tk acc' c' kp hS ha hi hr htk => ?_
    ·intro b hb
     rcases List.mem_cons.mp hb with e | e
     ·rw [e]; exact big (Nat.le_add_right _ _)
     ·have : b = l1 := by simpa using e
      rw [this]; exact big (Nat.le_trans (Nat.le_of_lt lt1) (Nat.le_add_right _ _))
    ·intro b hb
     rcases List.mem_cons.mp hb with e | e
     ·rw [e]; exact big (Nat.add_le_add_left (by decide) _)
     ·have : b = l2 := by simpa using e
      rw [this]; exact big (Nat.le_trans (Nat.le_of_lt lt2) (Nat.le_add_right _ _))
    ·exact ⟨hlt, big (Nat.add_le_add_left (by decide) _), big (Nat.add_le_add_left (by decide) _), big (Nat.le_add_right _ _), big (Nat.add_le_add_left (by decide) _)⟩
    ·intro ht
     obtain ⟨hi', hr⟩ := hr
     obtain ⟨ts, e1, e2, e3, e4, e5⟩ := zp_table (X := X) ha rfl (by omega : ys.length = xs.length) hi hr k1 (fun i v h => k2 i v h)
     have kAll : ∀ b o, s2.heap.get? b = some o → h'.get? b = some o := fun b o e => kp b o (by
      have := Heap.lt_size e
      simp only [List.mem_cons, List.not_mem_nil, or_false, not_or]
      exact ⟨Nat.ne_of_lt (Nat.lt_of_lt_of_le this (Nat.le_add_right _ _)), Nat.ne_of_lt (Nat.lt_of_lt_of_le this (Nat.le_add_right _ _)), Nat.ne_of_lt this, Nat.ne_of_lt (Nat.lt_of_lt_of_le this (Nat.le_add_right _ _))⟩) (kk' b o e)
     have hbig : s2.heap.objs.size ≤ hc2.objs.size := Nat.le_of_lt (big (Nat.le_add_right _ _))
     have hlow : ∀ t ∈ ts, s2.heap.objs.size ≤ t.1 ∧ t.1 ≠ hc2.objs.size := fun t ht => ⟨Nat.le_trans hbig (Nat.le_trans (Nat.le_succ _) (e5 t ht).1), Nat.ne_of_gt (Nat.lt_of_lt_of_le (Nat.lt_succ_self _) (e5 t ht).1)⟩
     have hnew : ∀ {b}, s2.heap.objs.size ≤ b → H2 b = none := fun h => I2.hok.fresh h
     have sm : Same H2 (tabZ H2 hc2.objs.size ts) := fun b o e => by
      unfold tabZ
      have hb : b ≠ hc2.objs.size := fun z => by rw [z, hnew hbig] at e; cases e
      rw [if_neg hb]
      cases hf : ts.find? (fun t => t.1 == b) with
      | none => exact e
      | some t =>
       have h1 := List.mem_of_find?_eq_some hf
       have h2 : t.1 = b := by simpa using List.find?_some hf
       rw [← h2, hnew (hlow t h1).1] at e
       cases e
     have tt : ∀ t ∈ ts, tabZ H2 hc2.objs.size ts t.1 = some (.tup [t.2.1, t.2.2]) := fun t ht => by
      unfold tabZ
      rw [if_neg (hlow t ht).2]
      rw [find_own e2 ht]
     have tl : tabZ H2 hc2.objs.size ts hc2.objs.size = some (.lst (ts.map fun t => .ref t.1)) := by unfold tabZ; rw [if_pos rfl]
     have hts : ts.length ≤ 10000 := by have := zd1.1; omega
     have I3 : Inv X pins σ (tabZ H2 hc2.objs.size ts) { s2 with heap := h', toks := tk } := I2.grown kAll sm (fun b o e => by
      by_cases hb : b = hc2.objs.size
      ·right
       subst hb
       rw [tl] at e
       cases e
       refine ⟨hbig, by rw [List.length_map]; exact Nat.le_trans hts (by decide), acc'.toList, c', ?_, by simpa using hS⟩
       rw [e1]
       clear e1 e2 e3 e4 e5 hlow sm tt tl hts
       induction ts with
       | nil => exact .nil
       | cons t r ih => exact .cons rfl ih
      ·unfold tabZ at e
       rw [if_neg hb] at e
       cases hf : ts.find? (fun t => t.1 == b) with
       | none => rw [hf] at e; exact .inl e
       | some t =>
        rw [hf] at e
        cases e
        have h1 := List.mem_of_find?_eq_some hf
        have h2 : t.1 = b := by simpa using List.find?_some hf
        obtain ⟨_, u, v, h3, h4, h5⟩ := e5 t h1
        rw [h2] at h3
        exact .inr ⟨by rw [← h2]; exact (hlow t h1).1, by show 2 ≤ sizeLine; decide, [u, v], .cons h4 (.cons h5 .nil), ⟨_, h3, rfl, _, rfl⟩⟩) ht
     have LA := (((FF.liv.mono sm1).mono sm2))
     have hA : ∀ {b}, s2.heap.objs.size ≤ b → b ∉ A := fun h => LA.fresh (hnew h)
     refine ⟨.ref hc2.objs.size, _, I3, rfl, q2 _ _ sm (rep_lst (xs := ts.map fun t => .ref t.1) ?_ (reps_tab (hx2.mono (sm.hid A)) (hy2.mono (sm.hid A)) hlen (by omega) e4 fun t ht => ?_)) ?_ ?_⟩
     ·rw [hid_ne (hA hbig)]; exact tl
     ·rw [hid_ne (hA (hlow t ht).1)]; exact tt t ht
     ·refine ⟨by simp [zipD]; have := zd1.1; omega, sms_of fun d hd => ?_⟩
      obtain ⟨p, hp, rfl⟩ := List.mem_map.mp hd
      have := List.of_mem_zip hp
      exact ⟨by show 2 ≤ 10000; decide, sms_mem zd1.2 this.1, sms_mem zd2.2 this.2, trivial⟩
     ·exact ⟨_, _, rfl, hnew hbig, tl⟩
   ·exact (show False from q2).elim
  | _ => exact (show False from q2).elim
 | _ => exact (show False from q2).elim
end
section
variable {X : Cx} {pins : List (Addr × Obj)} {σ : St} {H : Hp} {s : Shared} {p : Addr} {ys : List V} {ds : List Dt}
mutual
theorem rep_off (I : Inv X pins σ H s) (hp : H p = some (.lst ys)) (hr : Reps X.K H ds ys) : ∀ {d : Dt} {v : V}, sizeOf d < sizeOf (Dt.lst ds) → Rep X.K H d v → Rep X.K (hid H [p]) d v
 | .non, _, _, h => by simpa only [Rep] using h
 | .bl _, _, _, h => by simpa only [Rep] using h
 | .int _, _, _, h => by simpa only [Rep] using h
 | .str _, _, _, h => by simpa only [Rep] using h
 | .tup es, _, hz, h => by
  simp only [Rep] at h ⊢
  obtain ⟨a, xs, h1, h2, h3⟩ := h
  have hz' : sizeOf es < sizeOf (Dt.lst ds) := by simp only [Dt.tup.sizeOf_spec] at hz; omega
  refine ⟨a, xs, h1, ?_, reps_off I hp hr hz' h3⟩
  rcases h2 with (h2 | ⟨o, h2⟩) | h2
  ·exact .inl (.inl (by rw [hid_ne (by simp only [List.mem_singleton]; intro z; rw [z, hp] at h2; cases h2)]; exact h2))
  ·exact .inl (.inr ⟨o, by rw [hid_ne (by simp only [List.mem_singleton]; intro z; rw [z, hp] at h2; cases h2)]; exact h2⟩)
  ·exact .inr h2
 | .lst es, v, hz, h => by
  have h' := h
  simp only [Rep] at h ⊢
  obtain ⟨a, xs, h1, h2, h3⟩ := h
  have hz' : sizeOf es < sizeOf (Dt.lst ds) := by simp only [Dt.lst.sizeOf_spec] at hz ⊢; omega
  by_cases ha : a = p
  ·subst ha h1
   have e := Rep.inj I h' (rep_lst hp hr)
   rw [e] at hz
   exact absurd hz (Nat.lt_irrefl _)
  ·refine ⟨a, xs, h1, ?_, reps_off I hp hr hz' h3⟩
   have hn : a ∉ [p] := by simpa using ha
   rcases h2 with (h2 | ⟨o, h2⟩) | h2
   ·exact .inl (.inl (by rw [hid_ne hn]; exact h2))
   ·exact .inl (.inr ⟨o, by rw [hid_ne hn]; exact h2⟩)
   ·exact .inr h2
theorem reps_off (I : Inv X pins σ H s) (hp : H p = some (.lst ys)) (hr : Reps X.K H ds ys) : ∀ {es : List Dt} {xs : List V}, sizeOf es < sizeOf (Dt.lst ds) → Reps X.K H es xs → Reps X.K (hid H [p]) es xs
 | [], _, _, h => by simpa only [Reps] using h
 | d :: es, _, hz, h => by
  simp only [Reps] at h ⊢
  obtain ⟨x, r, h1, h2, h3⟩ := h
  have hz1 : sizeOf d < sizeOf (Dt.lst ds) := by simp only [List.cons.sizeOf_spec] at hz; omega
  have hz2 : sizeOf es < sizeOf (Dt.lst ds) := by simp only [List.cons.sizeOf_spec] at hz; omega
  exact ⟨x, r, h1, rep_off I hp hr hz1 h2, reps_off I hp hr hz2 h3⟩
end
end
def DeedOk (P : Program) (w : World) (K : PySem.W.Frag) (mg : Str → Option Value) (base : Heap) (k : Nat) (outer : List Env) (s : Shared) (H : Hp) (g : Addr) (ds : List Dt) : Prop :=
 ∀ (A' : Around) (outer' : List Env) (s2 : Shared) (H2 : Hp) (Q' : VK) (E' : XK), Room (k + 1) A' → Env0 P w K mg base A' outer' s2 H2 → 0 < s2.toks → Same H H2 → Un (frs outer) [] H H2 s.heap s2.heap →
  (∀ v H', Same H2 H' → Rep K H' (.lst ds) v → FrL H2 v H' → Q' v H') → codeAny (model P w) A' (.call (.ref g) ⟨[], []⟩) (CR (CX1 P w) outer' P w H2 s2 Q' E') s2
def StaysR (P : Program) (w : World) (K : PySem.W.Frag) (mg : Str → Option Value) (base : Heap) (k : Nat) : Prop :=
 ∃ f : Addr, mg "_law_stays" = some (.ref f) ∧ keepIn K (.ref f) = true ∧ ∀ (A : Around) (outer : List Env) (s : Shared) (H : Hp) (g : Addr) (o : Obj) (u : HO) (ds : List Dt) (Q : VK) (E : XK), Room (k + 2) A → Env0 P w K mg base A outer s H → 0 < s.toks → H g = some (.frz o u) → (∃ fd, o.data = .func fd) →
  DeedOk P w K mg base k outer s H g ds → ds.length ≤ 10000 → dep (.lst ds) ≤ 50 → (∀ H', Same H H' → Q (.bl true) H') → codeAny (model P w) A (.call (.ref f) ⟨[.ref g], []⟩) (CR (CX1 P w) outer P w H s Q E) s
def tIsL (K : PySem.W.Frag) : TE := tCB (fun xs H Q => ∃ a ys, xs = [.ref a, .ty "list"] ∧ SqL K H a ys ∧ Q (.bl true) H) (tCons (tVar 1) (tCons (tC (.ty "list")) tNil))
def tLsO (K : PySem.W.Frag) : TE := tCB (fun xs H Q => ∃ p ys, xs = [.ref p] ∧ (SqL K H p ys ∨ SqT K H p ys) ∧ ∀ l, H l = none → Q (.ref l) (upd H l (.lst ys))) (tCons (tVar 1) tNil)
def tStays (K : PySem.W.Frag) (te : TE) : TS := tSeq (tAsg te (gName 1)) (tSeq (tIfS (tNot (tB (tIsL K))) (tRet (tC (.bl false))) tNext) (tSeq (tAsg (tLsO K) (gName 2)) (tSeq (tDrop (tBM K "list" rAppend (tVar 1) (tCons (tC (S [63])) tNil))) (tRet (tOp (rEqD K) te (tVar 2))))))
def teDeed (K : PySem.W.Frag) (H : Hp) (g : Addr) (ds : List Dt) : TE := fun σ H2 Q' => σ[0]? = some (some (.ref g)) ∧ Same H H2 ∧ ∀ p ys H', Same H2 H' → H2 p = none → H' p = some (.lst ys) → Reps K (hid H' [p]) ds ys → Q' (.ref p) H'
theorem stays_pre {K : PySem.W.Frag} {H : Hp} {g : Addr} {ds : List Dt} {D : Ends} (hl : ds.length ≤ 10000) (hd : dep (.lst ds) ≤ 50) (q : ∀ H', Same H H' → D.rt (.bl true) H') : tStays K (teDeed K H g ds) D [some (.ref g), none, none] H := by
 refine ⟨rfl, .refl _, fun p ys H1 s1 n1 h1 r1 => ?_⟩
 have hlen : ys.length ≤ 10000 := by rw [← r1.length]; exact hl
 refine ⟨.ref p, rfl, p, ys, rfl, .inl (.inl h1), true, rfl, ?_⟩
 dsimp only
 rw [if_neg (by decide)]
 refine ⟨.ref p, rfl, p, ys, rfl, .inl (.inl (.inl h1)), fun l hL => ?_⟩
 have hlp : p ≠ l := fun z => by rw [z, hL] at h1; cases h1
 refine ⟨.ref p, rfl, .inl ⟨rfl, ys, .inl (.inl (by rw [upd_ne hlp]; exact h1))⟩, p, ys, _, rfl, rfl, by rw [upd_ne hlp]; exact h1, Nat.lt_of_le_of_lt hlen (by decide), ?_⟩
 have sH : Same H (upd (upd H1 l (.lst ys)) p (.lst (ys ++ [S [63]]))) := fun b o e => by
  have b1 : b ≠ p := fun z => by rw [z, n1] at e; cases e
  have b2 : b ≠ l := fun z => by rw [z, s1.free hL] at e; cases e
  rw [upd_ne b1, upd_ne b2]
  exact s1 b o e
 have s3 : Same (hid H1 [p]) (upd (upd H1 l (.lst ys)) p (.lst (ys ++ [S [63]]))) := fun b o e => by
  obtain ⟨e1, e2⟩ := of_hid e
  have b1 : b ≠ p := by simpa using e1
  have b2 : b ≠ l := fun z => by rw [z, hL] at e2; cases e2
  rw [upd_ne b1, upd_ne b2]
  exact e2
 refine ⟨rfl, sH, fun p2 ys2 H4 s4 n4 h4 r4 => ?_⟩
 have hkl : H4 l = some (.lst ys) := s4 _ _ (by rw [upd_ne (Ne.symm hlp)]; exact upd_same)
 refine ⟨.ref l, rfl, .lst ds, .lst ds, rep_lst h4 (r4.mono hid_same), rep_lst hkl (r1.mono (s3.trans s4)), hd, ?_⟩
 rw [eqD_refl]
 exact q H4 (sH.trans s4)
section
variable {P : Program} {w : World} {K : PySem.W.Frag} {mg : Str → Option Value} {base : Heap}
theorem stays_run {x d e : Str} {st : Stmt} {k : Nat} (FT : FnT K mg "_law_stays" st [x]) (S : FnScope [x, d, e] [x] (defScope st)) (lx : (defScope st).names.lookup x = some .local)
  (hB : ∀ (f : Addr) (cdv : Value) (A : Around) (outer : List Env) (s : Shared) (H : Hp) (E : XK) (te : TE), (cxOfM true (CX1 P w) P w K mg base [x, d, e] "_law_stays" (defScope st) f cdv A outer s H E).A.units + 50 < cLine → (∀ p1 p2, PE (cxOfM true (CX1 P w) P w K mg base [x, d, e] "_law_stays" (defScope st) f cdv A outer s H E) (.Call (.Name x p1) [] [] p2) te) →
   PSs (cxOfM true (CX1 P w) P w K mg base [x, d, e] "_law_stays" (defScope st) f cdv A outer s H E) (defBody st) (tStays K te))
  (dx : (x == ("__debug__" : Str)) = false := by decide) (ddx : (x == ("__classdict__" : Str)) = false := by decide) : StaysR P w K mg base k := by
 obtain ⟨f, fd, F, hm, hb⟩ := FT
 refine ⟨f, hm, F.kp, fun A outer s H g o u ds Q E hr e0 ht0 hg ho run hl hd hq => ?_⟩
 obtain ⟨oc, od, kV, doc, pm, an, cdv, ct, osl, rfl, lk, hcd⟩ := F.ex
 have KX : K.In s.heap := e0.mod.kin.keeps fun b o e => (e0.bs b o e).1
 refine fn_run (cm := true) (N := [x, d, e]) (ps := [x]) (us := [.ref g]) (vs := [.ref g]) lk hcd S hr.depth (fun _ => hr.hd) e0 (.inl ht0) (hb s [.ref g] KX rfl) (.cons rfl .nil) rfl ?_
 have hu : (A.deeper (envOfC "_law_stays" (defScope st) s.heap.objs.size f cdv)).units + 50 < cLine := by have := (hr.deeper (envOfC "_law_stays" (defScope st) s.heap.objs.size f cdv)).un; omega
 refine ⟨_, hB f cdv A outer s H E (teDeed K H g ds) hu fun p1 p2 => ?_, stays_pre hl hd hq⟩
 intro pins s1 σ H2 Q' I ⟨h1, h2, h3⟩
 refine wpAny_Call_Name_kw (thn (pe_var (i := 0) rfl (.inl lx) dx ddx pins s1 σ H2 (fun v H' => v = .ref g ∧ H' = H2) I ⟨_, h1, rfl, rfl⟩) fun v s2 ⟨v', H', I2, rv, z1, z2⟩ => ?_)
 subst z1 z2
 cases rv
 obtain ⟨hgo, _⟩ := I2.hok g _ (h2 _ _ hg)
 obtain ⟨fd', hfd⟩ := ho
 have hF : FnAt g s2.heap := by
  obtain ⟨oc', od', da', sl'⟩ := o
  simp only at hfd
  subst hfd
  exact ⟨_, _, _, _, hgo⟩
 refine callWith_F0 hF (wpAny_call (codeAny_mono (run _ _ s2 H' (fun v H4 => Same H' H4 ∧ Rep K H4 (.lst ds) v ∧ FrL H' v H4) E0 (hr.deeper _) I2.env0 I2.tk h2 I2.base fun v H4 s4 r4 f4 => ⟨s4, r4, f4⟩) fun r s' hq' => ?_))
 cases r with
 | error e => exact pass_no pins σ _ s2 e s' I2 hq'
 | ok fl =>
  cases fl with
  | ret u =>
   have J := I2.after hq'
   refine fun ht => ?_
   obtain ⟨v, H4, I4, rv4, s4, r4, D, ys, rfl, nD, hD⟩ := J ht
   obtain ⟨a, xs, ea, sq, rs⟩ := repL r4
   cases ea
   have ex : xs = ys := by
    rcases sq with (sq | ⟨o', sq⟩) | ⟨o', its, n, lk', _⟩
    ·rw [hD] at sq; cases sq; rfl
    ·rw [hD] at sq; cases sq
    ·have := (I4.bs _ _ (I4.ok.mod.kin _ _ lk')).2
     rw [hD] at this
     cases this
   subst ex
   exact ⟨_, H4, I4, rv4, h3 D xs H4 s4 nD hD (reps_off I4 hD rs (by simp only [Dt.lst.sizeOf_spec]; omega) rs)⟩
  | next => exact False.elim hq'
  | brk => exact False.elim hq'
  | cont => exact False.elim hq'
end
section
variable {X : Cx} {scope : Scope} {N : List Str} {fr : List Nat} {pins : List (Addr × Obj)} {σ : St} {H H2 : Hp} {s s2 : Shared} {A : Around} {outer : List Env} {E : XK} {q : Str} {f : Addr} {cv : Value} {h1 : Heap} {t1 : Nat} {m : Str → Option Value}
theorem lam_runF {params : Arguments} {body : Expr} {ctv : Value} {c' : Addr} {u : HO} {k : Nat} {cls : Nat → Addr} {g : Rho → M Dt} {Q : VK} {O B : List Addr} {ρ : Rho} (S : LScope X scope N fr) (I : Inv X pins σ H s) (un : Un (frs X.stack) [] H H2 s.heap s2.heap) (e0 : Env0 X.prog X.w X.K X.mg X.base A outer s2 H2) (hr : Room (k + 1) A)
  (hf : H2 f = some (.frz (lamO q params body scope X.env.cells X.mg (.ref c') ctv) u)) (hc : CodeO H2 c' q)
  (hbind : ∀ fd : FuncData, fd.params = params → fd.defaults = .none → fd.kwdefaults = .none → bindArgs fd ⟨[], []⟩ = pure [])
  (hbody : ∀ (f : Addr) (cv : Value) (A : Around) (outer : List Env) (s2 : Shared) (H2 : Hp) (E : XK), Room k (A.deeper (envX q scope s2.heap.objs.size f cv (closOf scope.names X.env.cells))) → Rz (cxL (CX1 X.prog X.w) X.prog X.w X.K X.mg X.base N q scope f cv (closOf scope.names X.env.cells) A outer s2 H2 E) E →
   EvF (cxL (CX1 X.prog X.w) X.prog X.w X.K X.mg X.base N q scope f cv (closOf scope.names X.env.cells) A outer s2 H2 E) cls E body g)
  (Ft : Fit X.K O B ρ (startC 0 fr σ) H2) (hq : ResF X.K cls B E (g ρ) H2 Q) (ht2 : 0 < s2.toks) :
  codeAny (model X.prog X.w) A (.call (.ref f) ⟨[], []⟩) (CR (CX1 X.prog X.w) outer X.prog X.w H2 s2 Q E) s2 := by
 obtain ⟨hfo, _⟩ := e0.hok f _ hf
 have hcr : s2.heap.CodeRec (.ref c') q := by
  obtain ⟨oc, u', vs, t, z1, z2, z3⟩ := hc
  obtain ⟨z4, _⟩ := e0.hok c' _ z1
  exact ⟨c', oc, vs, t, rfl, z4, z2, z3⟩
 have lim : s2.heap.NoLimit := e0.mod.nolimit.keeps fun b o e => (e0.bs b o e).1
 refine kla_callFunE hr.depth hfo rfl S.co S.gen rfl hcr ?_
 rw [hbind _ rfl rfl rfl]
 refine wpAny_pure (wpAny_newFunctionEnv S.nocell (fun x hx => nomatch hx) (fun h₁ hns hsb => ⟨lim.fresh _ hsb, ?_⟩) S.c.kind)
 have hk₁ : ∀ b o, s2.heap.get? b = some o → h₁.get? b = some o := fun b o e => hsb.extBut b o (Nat.ne_of_lt (Heap.lt_size e)) (Heap.get?_push_of_some _ e)
 have IL := invL (q := q) (f := f) (cv := .ref c') (E := E) (t1 := s2.toks + ([] : List (Str × Value)).length) S I un e0 hr.hd hns hk₁ (Nat.lt_of_lt_of_le ht2 (Nat.le_add_right _ _))
 refine kla_codeExpr (thn (hbody f (.ref c') A outer s2 H2 E (hr.deeper _) rz_L [] _ _ _ Q IL ⟨O, B, ρ, Ft, hq⟩) (fun v s' ⟨v', H', J, rv, hQ⟩ => ?_))
 exact ⟨v', H', J.os, J.bare, J.base, J.hok, rv, hQ⟩
end
section
variable {X : Cx} {cls : Nat → Addr} {E : XK} {body : Expr} {g : Rho → M Dt} {params : Arguments} {scope : Scope} {N : List Str} {fr cs : List Nat} {c P : Addr} {q : Str} {k : Nat} {p lpos pos : Pos}
theorem ev_stays (SR : StaysR X.prog X.w X.K X.mg X.base k) (hr : Room (k + 2) X.A) (hx : Passes (CX1 X.prog X.w) X E) (hg : Gl X "_law_stays") (S : LScope X scope N fr) (hcode : X.env.code = .ref c) (B : LamB X.mg X.base c P) (hT : X.H₀ P = some (.tbl q)) (hq : X.env.qual ++ "<lambda>" = q)
  (hdef : defaultsOf params X.env = ([], [])) (hbind : ∀ fd : FuncData, fd.params = params → fd.defaults = .none → fd.kwdefaults = .none → bindArgs fd ⟨[], []⟩ = pure [])
  (hbody : ∀ (f : Addr) (cv : Value) (A : Around) (outer : List Env) (s2 : Shared) (H2 : Hp) (E : XK), Room k (A.deeper (envX q scope s2.heap.objs.size f cv (closOf scope.names X.env.cells))) → Rz (cxL (CX1 X.prog X.w) X.prog X.w X.K X.mg X.base N q scope f cv (closOf scope.names X.env.cells) A outer s2 H2 E) E →
   EvF (cxL (CX1 X.prog X.w) X.prog X.w X.K X.mg X.base N q scope f cv (closOf scope.names X.env.cells) A outer s2 H2 E) cls E body g) :
  Ev X cls E (.Call (.Name "_law_stays" p) [.Lambda params body scope lpos] [] pos) (pStays fr g) := by
 obtain ⟨f, hm, hk, run⟩ := SR
 intro pins s σ H Q I ⟨O, A, ρ, Ft, hQ⟩
 obtain ⟨ds, hds, hl, hd, hQ'⟩ : ∃ ds, g (startR 0 fr ρ) = .ok (.lst ds) ∧ ds.length ≤ 10000 ∧ dep (.lst ds) ≤ 50 ∧ Res X.K cls A E (.ok (.bl true)) H Q := by
  unfold pStays at hQ
  cases hgm : g (startR 0 fr ρ) with
  | ok d =>
   rw [hgm] at hQ
   cases d with
   | lst ds =>
    simp only [staysM] at hQ
    split at hQ
    ·rename_i hc
     exact ⟨ds, rfl, hc.1, hc.2, hQ⟩
    ·exact (show False from hQ).elim
   | _ => exact (show False from hQ).elim
  | ex c => rw [hgm] at hQ; exact (show False from hQ).elim
  | bad => rw [hgm] at hQ; exact (show False from hQ).elim
 refine wpAny_Call_Name_kw (ld_glob I hg hm ?_ (by decide))
 refine PySem.W.callWith_K (h₀ := X.base) I.ok.mod.kin hk ?_ rfl rfl
 refine Calls.spliced_cons (lam_made I (S.c.cells I.ok) hcode B (I.base.tbls P q hT) hq hdef fun g' c' ctv s' H' I' sm hg' hc' => Calls.spliced_nil ⟨I'.kIn, ?_⟩)
 refine wpAny_call (codeAny_mono (run X.A X.stack s' H' g' _ _ ds Q E hr I'.env0 I'.tk hg' ⟨_, rfl⟩ (fun A' outer' s2 H2 Q' E' hr' e0' ht2 sm2 un' q' => ?_) hl hd (fun H'' s'' => hQ' _ H'' (sm.trans s'') rep_bl trivial)) fun r s2 hq => ?_)
 ·exact lam_runF S I' un' e0' hr' (sm2 _ _ hg') (hc'.mono fun b o u e => sm2 _ _ e) hbind hbody (((Ft.mono sm).mono sm2).startC 0 fr) (by rw [hds]; exact fun v H4 s4 r4 z4 f4 => q' v H4 s4 (r4.mono hid_same) f4) ht2
 ·cases r with
  | error e => exact hx pins σ H' s' e s2 I' hq
  | ok fl =>
   cases fl with
   | ret u => exact I'.after hq
   | next => exact False.elim hq
   | brk => exact False.elim hq
   | cont => exact False.elim hq
end
section
variable {P : Program} {w : World} {K : PySem.W.Frag} {mg : Str → Option Value} {base : Heap} {cls : Nat → Addr}
theorem fn_okT0 {x qual : Str} {st : Stmt} {f : Addr} {fd : FuncData} {N ps : List Str} {k np n : Nat} {b : SM} {tabs : Tabs} (F : Fun K x qual st f fd) (S : FnScope N ps (defScope st)) (hp : ps.length = np) (hn : N.length = np + n)
  (hbody : ∀ (cdv : Value) (A : Around) (outer : List Env) (s : Shared) (H : Hp) (E : XK), cdv = fd.code → (∀ t ∈ tabs, H t.2.1 = some (.tbl t.2.2)) → Room k (A.deeper (envOfC qual (defScope st) s.heap.objs.size f cdv)) →
   Rz (cxOf (CX1 P w) P w K mg base N qual (defScope st) f cdv A outer s H E) E → Bv0 (cxOf (CX1 P w) P w K mg base N qual (defScope st) f cdv A outer s H E) cls E (defBody st) b) :
  FnOk P w K mg base (CX1 P w) (k + 1) f fd ps (spMT K cls tabs (fnM np n b)) := by
 have len : ∀ vs H Q E, spM K cls (fnM np n b) vs H Q E → vs.length = np := fun vs H Q E ⟨A, ds, L, r, z, q⟩ => by
  unfold fnM at q
  split at q
  ·rename_i hl
   rw [← r.length]
   exact hl
  ·exact (show False from q).elim
 obtain ⟨oc, od, kV, doc, pm, an, cdv, ct, osl, rfl, lk, hcd⟩ := F.ex
 refine fn_of0 lk hcd S (fun vs H Q E h => by rw [hp]; exact len vs H Q E h.2) fun A outer s H vs Q E hr h => ?_
 obtain ⟨ht, h⟩ := h
 have hv := len vs H Q E h
 refine ⟨_, hbody cdv A outer s H E rfl ht hr rz_of, ?_⟩
 obtain ⟨B, ds, L, r, z, q⟩ := h
 refine ⟨H, B, ds.map Bd.val ++ List.replicate n .no, ⟨[], .refl _, L, (fun a z => nomatch z), ?_⟩, ?_⟩
 ·have e : start N vs = vs.map some ++ List.replicate n none := by
   unfold start
   rw [hn, hv, Nat.add_sub_cancel_left]
  rw [e]
  exact fn_start L r z n
 ·unfold fnM at q
  split at q
  ·cases hm : b (ds.map Bd.val ++ List.replicate n .no) with
   | ok fl =>
    rw [hm] at q
    cases fl with
    | nx ρ => exact fun σ H' ⟨os, s', _, _, _⟩ => q .non H' s' rep_non trivial
    | rt d => exact fun v H' s' r' z' => q v H' s' r' z'
    | bk ρ => exact (show False from q).elim
    | ct ρ => exact (show False from q).elim
   | ex c => rw [hm] at q; exact q
   | bad => rw [hm] at q; exact q
  ·exact (show False from q).elim
end
end L2
namespace K96
open PySem L2 Pg PyProof.Rows PySem.W
def top (i : Nat) : Stmt := PySem.Challenge.pw_tickrows_k96_whole_told_lists_too.main.body.getD i (.Pass ⟨0, 0, 0, 0⟩)
abbrev s_law_cell : Stmt := top 31
abbrev s_law_pick : Stmt := top 32
abbrev s_law_wave : Stmt := top 33
abbrev s_law_stays : Stmt := top 34
abbrev s_value_at : Stmt := top 22
abbrev s_of_one_length : Stmt := top 7
abbrev s_refuse_unlike : Stmt := top 8
abbrev s_common_length : Stmt := top 9
abbrev s_values_of : Stmt := top 21
abbrev s_value_bounds : Stmt := top 23
abbrev s_is_change : Stmt := top 25
abbrev s_value_changes : Stmt := top 24
abbrev s_refuse_too_long : Stmt := top 10
abbrev s_digit_at : Stmt := top 29
abbrev s_digit_wave : Stmt := top 28
abbrev s_can_be_made : Stmt := top 27
abbrev s_of_values : Stmt := top 26
abbrev s_windows : Stmt := top 14
abbrev s_window_counts : Stmt := top 15
abbrev s_changes : Stmt := top 11
abbrev s_rises : Stmt := top 12
abbrev s_count_within : Stmt := top 17
abbrev s_changes_between : Stmt := top 16
abbrev s_all_high : Stmt := top 18
abbrev s_law : Stmt := top 35
structure Tx (K : PySem.W.Frag) (mg : Str → Option Value) (cNoWave cTooLong cUnlike : Addr) : Prop where
 len : mg "len" = none
 range : mg "range" = none
 max : mg "max" = none
 all : mg "all" = none
 list : mg "list" = none
 int : mg "int" = none
 str : mg "str" = none
 zip : mg "zip" = none
 enumerate : mg "enumerate" = none
 isinstance : mg "isinstance" = none
 set : mg "set" = none
 sorted : mg "sorted" = none
 sum : mg "sum" = none
 NoWave : mg "NoWave" = some (.ref cNoWave)
 TooLong : mg "TooLong" = some (.ref cTooLong)
 Unlike : mg "Unlike" = some (.ref cUnlike)
 MOST_TICKS : ∃ t, mg "MOST_TICKS" = some (.int 12 t)
 MOST_WAVES : ∃ t, mg "MOST_WAVES" = some (.int 6 t)
 f__law_cell : FnT K mg "_law_cell" s_law_cell ["_law_script", "_law_k"]
 f__law_pick : FnT K mg "_law_pick" s_law_pick ["_law_script", "_law_k", "_law_many"]
 f__law_wave : FnT K mg "_law_wave" s_law_wave ["_law_script", "_law_at", "_law_many", "_law_signs"]
 f__law_stays : FnT K mg "_law_stays" s_law_stays ["_law_deed"]
 f_value_at : FnT K mg "value_at" s_value_at ["waves", "tick"]
 f_of_one_length : FnT K mg "of_one_length" s_of_one_length ["waves"]
 f_refuse_unlike : FnT K mg "refuse_unlike" s_refuse_unlike ["waves"]
 f_common_length : FnT K mg "common_length" s_common_length ["waves"]
 f_values_of : FnT K mg "values_of" s_values_of ["waves"]
 f_value_bounds : FnT K mg "value_bounds" s_value_bounds ["waves"]
 f_is_change : FnT K mg "is_change" s_is_change ["ahead", "number"]
 f_value_changes : FnT K mg "value_changes" s_value_changes ["waves"]
 f_refuse_too_long : FnT K mg "refuse_too_long" s_refuse_too_long ["length"]
 f_digit_at : FnT K mg "digit_at" s_digit_at ["number", "place"]
 f_digit_wave : FnT K mg "digit_wave" s_digit_wave ["numbers", "place"]
 f_can_be_made : FnT K mg "can_be_made" s_can_be_made ["number", "many"]
 f_of_values : FnT K mg "of_values" s_of_values ["numbers", "many"]
 f_windows : FnT K mg "windows" s_windows ["wave", "many"]
 f_window_counts : FnT K mg "window_counts" s_window_counts ["wave", "many"]
 f_changes : FnT K mg "changes" s_changes ["wave"]
 f_rises : FnT K mg "rises" s_rises ["wave"]
 f_count_within : FnT K mg "count_within" s_count_within ["ticks", "start", "end"]
 f_changes_between : FnT K mg "changes_between" s_changes_between ["wave", "beat"]
 f_all_high : FnT K mg "all_high" s_all_high ["waves"]
 f_law : FnT K mg "law" s_law ["_law_script"]
 x_NoWave : excIn K cNoWave veMro "ValueError.__new__" = true
 x_TooLong : excIn K cTooLong veMro "ValueError.__new__" = true
 x_Unlike : excIn K cUnlike veMro "ValueError.__new__" = true
section
variable {P : Program} {w : World} {K : PySem.W.Frag} {mg : Str → Option Value} {base : Heap} {cNoWave cTooLong cUnlike : Addr}
abbrev cl (cNoWave cTooLong cUnlike : Addr) : Nat → Addr := fun c => match c with
 | 4 => cNoWave
 | 5 => cTooLong
 | 6 => cUnlike
 | _ => 0
theorem sc_law_cell : FnScope ["_law_script", "_law_k"] ["_law_script", "_law_k"] (defScope s_law_cell) := ⟨rfl, rfl, rfl, by decide +kernel, rfl, by decide +kernel, by decide +kernel, by decide +kernel⟩
theorem ok__law_cell (T : Tx K mg cNoWave cTooLong cUnlike) : Cal P w K mg base (CX1 P w) 1 "_law_cell" ["_law_script", "_law_k"] (spM K (cl cNoWave cTooLong cUnlike) F_L_cell) := by
 obtain ⟨f, fd, F, hm, hb⟩ := T.f__law_cell
 have SC := sc_law_cell
 refine ⟨f, fd, ?_, hm, F.kp, hb⟩
 refine fn_ok (b := B_L_cell) F SC rfl rfl fun cdv A outer s H E hr R => ?_
 exact (bv_cons (sv_if (tv_cmp od_lt (ev_var (pv 1)) (ev_callB cd_len (by rfl) T.len PySem.boot_len (av_cons rfl (ev_var (pv 0)) av_nil)) (nomark _)) (bv_one (sv_ret (ev_ix (ev_var (pv 0)) (ev_var (pv 1)) (fun _ _ => rfl)))) bv_nil)
   (bv_cons (sv_if (tv_cmp (od_eq (hu50 hr)) (ev_var (pv 0)) (ev_lst av_nil) (nomark _)) (bv_one (sv_ret ev_int)) bv_nil)
   (bv_one (sv_ret (ev_op od_add (ev_op od_mul (ev_ix (ev_var (pv 0)) (ev_op od_mod (ev_var (pv 1)) (ev_callB cd_len (by rfl) T.len PySem.boot_len (av_cons rfl (ev_var (pv 0)) av_nil))) (fun _ _ => rfl)) ev_int) (ev_var (pv 1)))))))
theorem sc_law_pick : FnScope ["_law_script", "_law_k", "_law_many", "_law_drawn"] ["_law_script", "_law_k", "_law_many"] (defScope s_law_pick) := ⟨rfl, rfl, rfl, by decide +kernel, rfl, by decide +kernel, by decide +kernel, by decide +kernel⟩
theorem ok__law_pick (T : Tx K mg cNoWave cTooLong cUnlike) : Cal P w K mg base (CX1 P w) 2 "_law_pick" ["_law_script", "_law_k", "_law_many"] (spM K (cl cNoWave cTooLong cUnlike) F_L_pick) := by
 obtain ⟨f, fd, F, hm, hb⟩ := T.f__law_pick
 have SC := sc_law_pick
 have CL_cell := ok__law_cell (P := P) (w := w) (base := base) T
 refine ⟨f, fd, ?_, hm, F.kp, hb⟩
 refine fn_ok (b := B_L_pick) F SC rfl rfl fun cdv A outer s H E hr R => ?_
 exact (bv_cons (sv_set (i := 3) SC.nd rfl (Or.inl rfl) (ev_op od_mod (ev_op od_mul (ev_op od_add (ev_cal CL_cell (hr.mono (by decide)) R.pass (av_cons rfl (ev_var (pv 0)) (av_cons rfl (ev_var (pv 1)) av_nil))) (ev_op od_mul ev_int (ev_op od_add (ev_var (pv 1)) ev_int))) ev_int) ev_int))
   (bv_one (sv_ret (ev_op od_mod (ev_op od_mod (ev_op od_add (ev_op od_mul (ev_var (pv 3)) (ev_var (pv 3))) (ev_op od_div (ev_var (pv 3)) ev_int)) ev_int) (ev_var (pv 2))))))
theorem sc_law_wave : FnScope ["_law_script", "_law_at", "_law_many", "_law_signs", "_law_made", "_law_k"] ["_law_script", "_law_at", "_law_many", "_law_signs"] (defScope s_law_wave) := ⟨rfl, rfl, rfl, by decide +kernel, rfl, by decide +kernel, by decide +kernel, by decide +kernel⟩
theorem ok__law_wave (T : Tx K mg cNoWave cTooLong cUnlike) : Cal P w K mg base (CX1 P w) 3 "_law_wave" ["_law_script", "_law_at", "_law_many", "_law_signs"] (spM K (cl cNoWave cTooLong cUnlike) F_L_wave) := by
 obtain ⟨f, fd, F, hm, hb⟩ := T.f__law_wave
 have SC := sc_law_wave
 have CL_pick := ok__law_pick (P := P) (w := w) (base := base) T
 refine ⟨f, fd, ?_, hm, F.kp, hb⟩
 refine fn_ok (b := B_L_wave) F SC rfl rfl fun cdv A outer s H E hr R => ?_
 exact (bv_cons (sv_set (i := 4) SC.nd rfl (Or.inl rfl) (ev_ix (ev_var (pv 3)) (ev_cal CL_pick (hr.mono (by decide)) R.pass (av_cons rfl (ev_var (pv 0)) (av_cons rfl (ev_var (pv 1)) (av_cons rfl (ev_callB cd_len (by rfl) T.len PySem.boot_len (av_cons rfl (ev_var (pv 3)) av_nil)) av_nil)))) (fun _ _ => rfl)))
   (bv_cons (sv_for0 rfl (iv_range2 (by rfl) T.range (av_cons rfl ev_int (av_cons rfl (ev_var (pv 2)) av_nil))) (gv_name (pg_name (i := 5) SC.nd rfl (Or.inl rfl))) (bv_one (sv_if (tv_cmp (od_eq (hu50 hr)) (ev_cal CL_pick (hr.mono (by decide)) pass_no (av_cons rfl (ev_var (pv 0)) (av_cons rfl (ev_op od_add (ev_var (pv 1)) (ev_op od_mul ev_int (ev_var (pv 5)))) (av_cons rfl ev_int av_nil)))) ev_int (nomark _)) (bv_one (sv_set (i := 4) SC.nd rfl (Or.inl rfl) (ev_op od_add (ev_var (pv 4)) (ev_ix (ev_var (pv 4)) (ev_neg ev_int) (fun _ _ => rfl))))) (bv_one (sv_set (i := 4) SC.nd rfl (Or.inl rfl) (ev_op od_add (ev_var (pv 4)) (ev_ix (ev_var (pv 3)) (ev_cal CL_pick (hr.mono (by decide)) pass_no (av_cons rfl (ev_var (pv 0)) (av_cons rfl (ev_op od_add (ev_op od_add (ev_var (pv 1)) (ev_op od_mul ev_int (ev_var (pv 5)))) ev_int) (av_cons rfl (ev_callB cd_len (by rfl) T.len PySem.boot_len (av_cons rfl (ev_var (pv 3)) av_nil)) av_nil)))) (fun _ _ => rfl))))))))
   (bv_one (sv_ret (ev_var (pv 4))))))
theorem sc_law_stays : FnScope ["_law_deed", "_law_told", "_law_kept"] ["_law_deed"] (defScope s_law_stays) := ⟨rfl, rfl, rfl, by decide +kernel, rfl, by decide +kernel, by decide +kernel, by decide +kernel⟩
theorem ok__law_stays (T : Tx K mg cNoWave cTooLong cUnlike) : StaysR P w K mg base 5 := by
 have SC := sc_law_stays
 refine stays_run T.f__law_stays sc_law_stays rfl fun f cdv A outer s H E te hu hd => ?_
 exact pss_cons (ps_set (i := 1) SC.nd rfl (Or.inl rfl) (hd _ _)) (pss_cons (ps_if (pt_not (pt_val (pe_callB call_isList (by rfl) T.isinstance boot_isinstance (pa_cons (pv 1) (pa_cons (pe_bltn (by rfl) T.list boot_list (v := .ty "list") rfl) pa_nil))))) (pss_one (ps_ret pe_bl)) pss_nil) (pss_cons (ps_set (i := 2) SC.nd rfl (Or.inl rfl) (pe_callTy call_list_of (by rfl) T.list boot_list (pa_cons (pv 1) pa_nil))) (pss_cons (ps_expr (pe_bm PySem.F.plainAttrs_list PySem.F.slot_list_append PySem.F.type_list_append mt_append (pv 1) (pa_cons (pe_S (l := [63])) pa_nil))) (pss_one (ps_ret (pe_cmpR (op_eqD hu) (hd _ _) (pv 2) (nomark _)))))))
theorem sc_value_at : FnScope ["waves", "tick", "levels"] ["waves", "tick"] (defScope s_value_at) := ⟨rfl, rfl, rfl, by decide +kernel, rfl, by decide +kernel, by decide +kernel, by decide +kernel⟩
theorem ok_value_at (T : Tx K mg cNoWave cTooLong cUnlike) : Cal P w K mg base (CX1 P w) 1 "value_at" ["waves", "tick"] (spM K (cl cNoWave cTooLong cUnlike) F_value_at) := by
 obtain ⟨f, fd, F, hm, hb⟩ := T.f_value_at
 have SC := sc_value_at
 refine ⟨f, fd, ?_, hm, F.kp, hb⟩
 refine fn_ok (b := B_value_at) F SC rfl rfl fun cdv A outer s H E hr R => ?_
 exact (bv_cons (sv_setComp (i := 2) (N := ["wave", "tick"]) (k := 1) (fr := [1]) (gk_nm (by decide)) rfl ⟨rfl, rfl, rfl, rfl, rfl, rfl⟩ (iv_of (ev_var (pv 0))) (fun _ _ _ _ => (gv_name (pg_name (i := 0) (show List.Nodup (α := Str) ["wave", "tick"] from by decide +kernel) rfl (Or.inl rfl) (Or.inr rfl)))) (fun _ _ _ _ => tv_none) (fun _ _ _ _ => (ev_ix (ev_var (pv 0)) (ev_var (pv 1)) (fun _ _ => rfl))) SC.nd rfl rfl)
   (bv_cons (sv_if (tv_cmp od_in (ev_S (l := [120])) (ev_var (pv 2)) (by with_unfolding_all rfl)) (bv_one (sv_ret ev_non)) bv_nil)
   (bv_one (sv_ret (ev_callB (cd_sum rfl) (by rfl) T.sum (show PySem.bootBuiltins "sum" = some (.builtin "sum") from by decide +kernel) (av_cons rfl (ev_comp (N := ["place", "level"]) (k := 2) (fr := []) (gk_tp (gks_cons (gk_nm (by decide)) (gks_cons (gk_nm (by decide)) gks_nil))) rfl ⟨rfl, rfl, rfl, rfl, rfl, rfl⟩ (iv_enum (by rfl) T.enumerate (av_cons rfl (ev_var (pv 2)) av_nil)) (fun _ _ _ _ => (gv_tup (n := 2) rfl (gvs_cons (gv_name (pg_name (i := 0) (show List.Nodup (α := Str) ["place", "level"] from by decide +kernel) rfl (Or.inl rfl) (Or.inr rfl))) (gvs_cons (gv_name (pg_name (i := 1) (show List.Nodup (α := Str) ["place", "level"] from by decide +kernel) rfl (Or.inl rfl) (Or.inr rfl))) gvs_nil)))) (fun _ _ _ _ => tv_none) (fun _ _ _ _ => (ev_op od_shl (ev_callTy cd_int (by rfl) T.int boot_int (av_cons rfl (ev_var (pv 1)) av_nil)) (ev_var (pv 0))))) av_nil))))))
theorem sc_of_one_length : FnScope ["waves"] ["waves"] (defScope s_of_one_length) := ⟨rfl, rfl, rfl, by decide +kernel, rfl, by decide +kernel, by decide +kernel, by decide +kernel⟩
theorem ok_of_one_length (T : Tx K mg cNoWave cTooLong cUnlike) : Cal P w K mg base (CX1 P w) 1 "of_one_length" ["waves"] (spM K (cl cNoWave cTooLong cUnlike) F_of_one_length) := by
 obtain ⟨f, fd, F, hm, hb⟩ := T.f_of_one_length
 have SC := sc_of_one_length
 refine ⟨f, fd, ?_, hm, F.kp, hb⟩
 refine fn_ok (b := B_of_one_length) F SC rfl rfl fun cdv A outer s H E hr R => ?_
 exact (bv_one (sv_ret (ev_callB (cd_all rfl) (by rfl) T.all boot_all (av_cons rfl (ev_comp (N := ["wave", "waves"]) (k := 1) (fr := [0]) (gk_nm (by decide)) rfl ⟨rfl, rfl, rfl, rfl, rfl, rfl⟩ (iv_of (ev_var (pv 0))) (fun _ _ _ _ => (gv_name (pg_name (i := 0) (show List.Nodup (α := Str) ["wave", "waves"] from by decide +kernel) rfl (Or.inl rfl) (Or.inr rfl)))) (fun _ _ _ _ => tv_none) (fun _ _ _ _ => (ev_cmp (od_eq (hu50 hr)) (ev_callB cd_len (by rfl) T.len PySem.boot_len (av_cons rfl (ev_var (pv 0)) av_nil)) (ev_callB cd_len (by rfl) T.len PySem.boot_len (av_cons rfl (ev_ix (ev_var (pv 1)) ev_int (fun _ _ => rfl)) av_nil)) (nomark _)))) av_nil))))
theorem sc_refuse_unlike : FnScope ["waves"] ["waves"] (defScope s_refuse_unlike) := ⟨rfl, rfl, rfl, by decide +kernel, rfl, by decide +kernel, by decide +kernel, by decide +kernel⟩
theorem ok_refuse_unlike (T : Tx K mg cNoWave cTooLong cUnlike) : Cal P w K mg base (CX1 P w) 2 "refuse_unlike" ["waves"] (spM K (cl cNoWave cTooLong cUnlike) F_refuse_unlike) := by
 obtain ⟨f, fd, F, hm, hb⟩ := T.f_refuse_unlike
 have SC := sc_refuse_unlike
 have Cof_one_length := ok_of_one_length (P := P) (w := w) (base := base) T
 refine ⟨f, fd, ?_, hm, F.kp, hb⟩
 refine fn_ok (b := B_refuse_unlike) F SC rfl rfl fun cdv A outer s H E hr R => ?_
 exact (bv_one (sv_if (tv_not (tv_val (ev_cal Cof_one_length (hr.mono (by decide)) R.pass (av_cons rfl (ev_var (pv 0)) av_nil)))) (bv_one (sv_raise (cn := 6) rfl R (by rfl) (by exact T.Unlike) (by exact T.x_Unlike) (uv_of (ev_S (l := [116, 104, 101, 32, 119, 97, 118, 101, 115, 32, 104, 97, 118, 101, 32, 117, 110, 108, 105, 107, 101, 32, 108, 101, 110, 103, 116, 104, 115]))))) bv_nil))
theorem sc_common_length : FnScope ["waves"] ["waves"] (defScope s_common_length) := ⟨rfl, rfl, rfl, by decide +kernel, rfl, by decide +kernel, by decide +kernel, by decide +kernel⟩
theorem ok_common_length (T : Tx K mg cNoWave cTooLong cUnlike) : Cal P w K mg base (CX1 P w) 3 "common_length" ["waves"] (spM K (cl cNoWave cTooLong cUnlike) F_common_length) := by
 obtain ⟨f, fd, F, hm, hb⟩ := T.f_common_length
 have SC := sc_common_length
 have Crefuse_unlike := ok_refuse_unlike (P := P) (w := w) (base := base) T
 refine ⟨f, fd, ?_, hm, F.kp, hb⟩
 refine fn_ok (b := B_common_length) F SC rfl rfl fun cdv A outer s H E hr R => ?_
 exact (bv_cons (sv_drop (ev_cal Crefuse_unlike (hr.mono (by decide)) R.pass (av_cons rfl (ev_var (pv 0)) av_nil)))
   (bv_one (sv_ret (ev_maxD rfl (by rfl) T.max (ev_comp (N := ["wave"]) (k := 1) (fr := []) (gk_nm (by decide)) rfl ⟨rfl, rfl, rfl, rfl, rfl, rfl⟩ (iv_of (ev_var (pv 0))) (fun _ _ _ _ => (gv_name (pg_name (i := 0) (show List.Nodup (α := Str) ["wave"] from by decide +kernel) rfl (Or.inl rfl) (Or.inr rfl)))) (fun _ _ _ _ => tv_none) (fun _ _ _ _ => (ev_callB cd_len (by rfl) T.len PySem.boot_len (av_cons rfl (ev_var (pv 0)) av_nil)))) rfl ev_int))))
theorem sc_values_of : FnScope ["waves"] ["waves"] (defScope s_values_of) := ⟨rfl, rfl, rfl, by decide +kernel, rfl, by decide +kernel, by decide +kernel, by decide +kernel⟩
theorem okF_values_of (T : Tx K mg cNoWave cTooLong cUnlike) : Cal P w K mg base (CX1 P w) 4 "values_of" ["waves"] (spMF K (cl cNoWave cTooLong cUnlike) F_values_of) := by
 obtain ⟨f, fd, F, hm, hb⟩ := T.f_values_of
 have SC := sc_values_of
 have Cvalue_at := ok_value_at (P := P) (w := w) (base := base) T
 have Ccommon_length := ok_common_length (P := P) (w := w) (base := base) T
 refine ⟨f, fd, ?_, hm, F.kp, hb⟩
 refine fn_okF (b := B_values_of) F SC rfl rfl (fun cdv A outer s H E hr R => ?_) nx_ret
 exact (bvF_ret (ev_compF (N := ["tick", "waves"]) (k := 1) (fr := [0]) (gk_nm (by decide)) rfl ⟨rfl, rfl, rfl, rfl, rfl, rfl⟩ (iv_range1 (by rfl) T.range (av_cons rfl (ev_cal Ccommon_length (hr.mono (by decide)) R.pass (av_cons rfl (ev_var (pv 0)) av_nil)) av_nil)) (fun _ _ _ _ => (gv_name (pg_name (i := 0) (show List.Nodup (α := Str) ["tick", "waves"] from by decide +kernel) rfl (Or.inl rfl) (Or.inr rfl)))) (fun _ _ _ _ => tv_none) (fun _ _ _ _ => (ev_cal Cvalue_at (hr.mono (by decide)) pass_no (av_cons rfl (ev_var (pv 1)) (av_cons rfl (ev_var (pv 0)) av_nil))))))
theorem ok_values_of (T : Tx K mg cNoWave cTooLong cUnlike) : Cal P w K mg base (CX1 P w) 4 "values_of" ["waves"] (spM K (cl cNoWave cTooLong cUnlike) F_values_of) := (okF_values_of T).anew
theorem sc_value_bounds : FnScope ["waves", "least", "greatest"] ["waves"] (defScope s_value_bounds) := ⟨rfl, rfl, rfl, by decide +kernel, rfl, by decide +kernel, by decide +kernel, by decide +kernel⟩
theorem okF_value_bounds (T : Tx K mg cNoWave cTooLong cUnlike) : Cal P w K mg base (CX1 P w) 5 "value_bounds" ["waves"] (spMF K (cl cNoWave cTooLong cUnlike) F_value_bounds) := by
 obtain ⟨f, fd, F, hm, hb⟩ := T.f_value_bounds
 have SC := sc_value_bounds
 have Cvalues_of := ok_values_of (P := P) (w := w) (base := base) T
 refine ⟨f, fd, ?_, hm, F.kp, hb⟩
 refine fn_okF (b := B_value_bounds) F SC rfl rfl (fun cdv A outer s H E hr R => ?_) (nx_seq (nx_seq nx_ret))
 exact (bvF_cons nr_asg (sv_set (i := 1) SC.nd rfl (Or.inl rfl) (ev_cal Cvalues_of (hr.mono (by decide)) R.pass (av_cons rfl (ev_comp (N := ["wave"]) (k := 1) (fr := []) (gk_nm (by decide)) rfl ⟨rfl, rfl, rfl, rfl, rfl, rfl⟩ (iv_of (ev_var (pv 0))) (fun _ _ _ _ => (gv_name (pg_name (i := 0) (show List.Nodup (α := Str) ["wave"] from by decide +kernel) rfl (Or.inl rfl) (Or.inr rfl)))) (fun _ _ _ _ => tv_none) (fun _ _ _ _ => (ev_repl (a := 120) (b := 48) rfl rfl (by decide) (ev_var (pv 0))))) av_nil)))
   (bvF_cons nr_asg (sv_set (i := 2) SC.nd rfl (Or.inl rfl) (ev_cal Cvalues_of (hr.mono (by decide)) R.pass (av_cons rfl (ev_comp (N := ["wave"]) (k := 1) (fr := []) (gk_nm (by decide)) rfl ⟨rfl, rfl, rfl, rfl, rfl, rfl⟩ (iv_of (ev_var (pv 0))) (fun _ _ _ _ => (gv_name (pg_name (i := 0) (show List.Nodup (α := Str) ["wave"] from by decide +kernel) rfl (Or.inl rfl) (Or.inr rfl)))) (fun _ _ _ _ => tv_none) (fun _ _ _ _ => (ev_repl (a := 120) (b := 49) rfl rfl (by decide) (ev_var (pv 0))))) av_nil)))
   (bvF_ret (ev_lzipF rfl (by rfl) T.list (by rfl) T.zip (ev_var (pv 1)) (ev_var (pv 2)) rfl rfl))))
theorem ok_value_bounds (T : Tx K mg cNoWave cTooLong cUnlike) : Cal P w K mg base (CX1 P w) 5 "value_bounds" ["waves"] (spM K (cl cNoWave cTooLong cUnlike) F_value_bounds) := (okF_value_bounds T).anew
theorem sc_is_change : FnScope ["ahead", "number"] ["ahead", "number"] (defScope s_is_change) := ⟨rfl, rfl, rfl, by decide +kernel, rfl, by decide +kernel, by decide +kernel, by decide +kernel⟩
theorem ok_is_change (T : Tx K mg cNoWave cTooLong cUnlike) : Cal P w K mg base (CX1 P w) 1 "is_change" ["ahead", "number"] (spM K (cl cNoWave cTooLong cUnlike) F_is_change) := by
 obtain ⟨f, fd, F, hm, hb⟩ := T.f_is_change
 have SC := sc_is_change
 refine ⟨f, fd, ?_, hm, F.kp, hb⟩
 refine fn_ok (b := B_is_change) F SC rfl rfl fun cdv A outer s H E hr R => ?_
 exact (bv_one (sv_ret (ev_and (ev_cmp od_notin ev_non (ev_tup (av_cons rfl (ev_var (pv 0)) (av_cons rfl (ev_var (pv 1)) av_nil))) (by with_unfolding_all rfl)) (ev_one (ev_cmp (od_ne (hu50 hr)) (ev_var (pv 0)) (ev_var (pv 1)) (nomark _))))))
theorem sc_value_changes : FnScope ["waves", "numbers"] ["waves"] (defScope s_value_changes) := ⟨rfl, rfl, rfl, by decide +kernel, rfl, by decide +kernel, by decide +kernel, by decide +kernel⟩
theorem okF_value_changes (T : Tx K mg cNoWave cTooLong cUnlike) : Cal P w K mg base (CX1 P w) 5 "value_changes" ["waves"] (spMF K (cl cNoWave cTooLong cUnlike) F_value_changes) := by
 obtain ⟨f, fd, F, hm, hb⟩ := T.f_value_changes
 have SC := sc_value_changes
 have Cvalues_of := ok_values_of (P := P) (w := w) (base := base) T
 have Cis_change := ok_is_change (P := P) (w := w) (base := base) T
 refine ⟨f, fd, ?_, hm, F.kp, hb⟩
 refine fn_okF (b := B_value_changes) F SC rfl rfl (fun cdv A outer s H E hr R => ?_) (nx_seq nx_ret)
 exact (bvF_cons nr_asg (sv_set (i := 1) SC.nd rfl (Or.inr rfl) (ev_cal Cvalues_of (hr.mono (by decide)) R.pass (av_cons rfl (ev_var (pv 0)) av_nil)))
   (bvF_ret (ev_compF (N := ["tick", "numbers"]) (k := 1) (fr := [1]) (gk_nm (by decide)) rfl ⟨rfl, rfl, rfl, rfl, rfl, rfl⟩ (iv_range2 (by rfl) T.range (av_cons rfl ev_int (av_cons rfl (ev_callB cd_len (by rfl) T.len PySem.boot_len (av_cons rfl (ev_var (pv 1)) av_nil)) av_nil))) (fun _ _ _ _ => (gv_name (pg_name (i := 0) (show List.Nodup (α := Str) ["tick", "numbers"] from by decide +kernel) rfl (Or.inl rfl) (Or.inr rfl)))) (fun _ _ _ _ => (tv_one (tv_val (ev_cal Cis_change (hr.mono (by decide)) pass_no (av_cons rfl (ev_ix (ev_var (pv 1)) (ev_op od_sub (ev_var (pv 0)) ev_int) (fun _ _ => rfl)) (av_cons rfl (ev_ix (ev_var (pv 1)) (ev_var (pv 0)) (fun _ _ => rfl)) av_nil)))))) (fun _ _ _ _ => (ev_var (pv 0))))))
theorem ok_value_changes (T : Tx K mg cNoWave cTooLong cUnlike) : Cal P w K mg base (CX1 P w) 5 "value_changes" ["waves"] (spM K (cl cNoWave cTooLong cUnlike) F_value_changes) := (okF_value_changes T).anew
theorem sc_refuse_too_long : FnScope ["length"] ["length"] (defScope s_refuse_too_long) := ⟨rfl, rfl, rfl, by decide +kernel, rfl, by decide +kernel, by decide +kernel, by decide +kernel⟩
theorem ok_refuse_too_long (T : Tx K mg cNoWave cTooLong cUnlike) : Cal P w K mg base (CX1 P w) 1 "refuse_too_long" ["length"] (spM K (cl cNoWave cTooLong cUnlike) F_refuse_too_long) := by
 obtain ⟨f, fd, F, hm, hb⟩ := T.f_refuse_too_long
 have SC := sc_refuse_too_long
 refine ⟨f, fd, ?_, hm, F.kp, hb⟩
 refine fn_ok (b := B_refuse_too_long) F SC rfl rfl fun cdv A outer s H E hr R => ?_
 exact (bv_one (sv_if (tv_not (tv_chain od_le od_le ev_int (ev_var (pv 0)) (ev_of (pe_glob (by rfl) T.MOST_TICKS.choose_spec (v := .int 12) ⟨_, rfl⟩) (fun _ => rep_int) trivial))) (bv_one (sv_raise (cn := 5) rfl R (by rfl) (by exact T.TooLong) (by exact T.x_TooLong) (uv_f3 (ev_of (pe_glob (by rfl) T.MOST_TICKS.choose_spec (v := .int 12) ⟨_, rfl⟩) (fun _ => rep_int) trivial)))) bv_nil))
theorem sc_digit_at : FnScope ["number", "place"] ["number", "place"] (defScope s_digit_at) := ⟨rfl, rfl, rfl, by decide +kernel, rfl, by decide +kernel, by decide +kernel, by decide +kernel⟩
theorem ok_digit_at (T : Tx K mg cNoWave cTooLong cUnlike) : Cal P w K mg base (CX1 P w) 1 "digit_at" ["number", "place"] (spM K (cl cNoWave cTooLong cUnlike) F_digit_at) := by
 obtain ⟨f, fd, F, hm, hb⟩ := T.f_digit_at
 have SC := sc_digit_at
 refine ⟨f, fd, ?_, hm, F.kp, hb⟩
 refine fn_ok (b := B_digit_at) F SC rfl rfl fun cdv A outer s H E hr R => ?_
 exact (bv_one (sv_ret (ev_if (tv_cmp od_is (ev_var (pv 0)) ev_non (nomark _)) (ev_S (l := [120])) (ev_callTy cd_str (by rfl) T.str boot_str (av_cons rfl (ev_and1 (ev_op od_shr (ev_var (pv 0)) (ev_var (pv 1)))) av_nil)))))
theorem sc_digit_wave : FnScope ["numbers", "place"] ["numbers", "place"] (defScope s_digit_wave) := ⟨rfl, rfl, rfl, by decide +kernel, rfl, by decide +kernel, by decide +kernel, by decide +kernel⟩
theorem ok_digit_wave (T : Tx K mg cNoWave cTooLong cUnlike) : Cal P w K mg base (CX1 P w) 2 "digit_wave" ["numbers", "place"] (spM K (cl cNoWave cTooLong cUnlike) F_digit_wave) := by
 obtain ⟨f, fd, F, hm, hb⟩ := T.f_digit_wave
 have SC := sc_digit_wave
 have Cdigit_at := ok_digit_at (P := P) (w := w) (base := base) T
 refine ⟨f, fd, ?_, hm, F.kp, hb⟩
 refine fn_ok (b := B_digit_wave) F SC rfl rfl fun cdv A outer s H E hr R => ?_
 exact (bv_one (sv_ret (ev_join (av_cons rfl (ev_comp (N := ["number", "place"]) (k := 1) (fr := [1]) (gk_nm (by decide)) rfl ⟨rfl, rfl, rfl, rfl, rfl, rfl⟩ (iv_of (ev_var (pv 0))) (fun _ _ _ _ => (gv_name (pg_name (i := 0) (show List.Nodup (α := Str) ["number", "place"] from by decide +kernel) rfl (Or.inl rfl) (Or.inr rfl)))) (fun _ _ _ _ => tv_none) (fun _ _ _ _ => (ev_cal Cdigit_at (hr.mono (by decide)) pass_no (av_cons rfl (ev_var (pv 0)) (av_cons rfl (ev_var (pv 1)) av_nil))))) av_nil) rfl)))
theorem sc_can_be_made : FnScope ["number", "many"] ["number", "many"] (defScope s_can_be_made) := ⟨rfl, rfl, rfl, by decide +kernel, rfl, by decide +kernel, by decide +kernel, by decide +kernel⟩
theorem ok_can_be_made (T : Tx K mg cNoWave cTooLong cUnlike) : Cal P w K mg base (CX1 P w) 1 "can_be_made" ["number", "many"] (spM K (cl cNoWave cTooLong cUnlike) F_can_be_made) := by
 obtain ⟨f, fd, F, hm, hb⟩ := T.f_can_be_made
 have SC := sc_can_be_made
 refine ⟨f, fd, ?_, hm, F.kp, hb⟩
 refine fn_ok (b := B_can_be_made) F SC rfl rfl fun cdv A outer s H E hr R => ?_
 exact (bv_one (sv_ret (ev_or (ev_cmp od_is (ev_var (pv 0)) ev_non (nomark _)) (ev_one (ev_cmp (od_eq (hu50 hr)) (ev_op od_shr (ev_var (pv 0)) (ev_var (pv 1))) ev_int (nomark _))))))
theorem sc_of_values : FnScope ["numbers", "many"] ["numbers", "many"] (defScope s_of_values) := ⟨rfl, rfl, rfl, by decide +kernel, rfl, by decide +kernel, by decide +kernel, by decide +kernel⟩
theorem okF_of_values (T : Tx K mg cNoWave cTooLong cUnlike) : Cal P w K mg base (CX1 P w) 3 "of_values" ["numbers", "many"] (spMF K (cl cNoWave cTooLong cUnlike) F_of_values) := by
 obtain ⟨f, fd, F, hm, hb⟩ := T.f_of_values
 have SC := sc_of_values
 have Crefuse_too_long := ok_refuse_too_long (P := P) (w := w) (base := base) T
 have Cdigit_wave := ok_digit_wave (P := P) (w := w) (base := base) T
 have Ccan_be_made := ok_can_be_made (P := P) (w := w) (base := base) T
 refine ⟨f, fd, ?_, hm, F.kp, hb⟩
 refine fn_okF (b := B_of_values) F SC rfl rfl (fun cdv A outer s H E hr R => ?_) (nx_seq (nx_seq (nx_seq nx_ret)))
 exact (bvF_cons nr_drop (sv_drop (ev_cal Crefuse_too_long (hr.mono (by decide)) R.pass (av_cons rfl (ev_callB cd_len (by rfl) T.len PySem.boot_len (av_cons rfl (ev_var (pv 0)) av_nil)) av_nil)))
   (bvF_cons (nr_if nr_rz nr_skip) (sv_if (tv_not (tv_chain od_le od_le ev_int (ev_var (pv 1)) (ev_of (pe_glob (by rfl) T.MOST_WAVES.choose_spec (v := .int 6) ⟨_, rfl⟩) (fun _ => rep_int) trivial))) (bv_one (sv_raise (cn := 4) rfl R (by rfl) (by exact T.NoWave) (by exact T.x_NoWave) (uv_f3 (ev_of (pe_glob (by rfl) T.MOST_WAVES.choose_spec (v := .int 6) ⟨_, rfl⟩) (fun _ => rep_int) trivial)))) bv_nil)
   (bvF_cons (nr_if nr_rz nr_skip) (sv_if (tv_not (tv_val (ev_callB (cd_all rfl) (by rfl) T.all boot_all (av_cons rfl (ev_comp (N := ["number", "many"]) (k := 1) (fr := [1]) (gk_nm (by decide)) rfl ⟨rfl, rfl, rfl, rfl, rfl, rfl⟩ (iv_of (ev_var (pv 0))) (fun _ _ _ _ => (gv_name (pg_name (i := 0) (show List.Nodup (α := Str) ["number", "many"] from by decide +kernel) rfl (Or.inl rfl) (Or.inr rfl)))) (fun _ _ _ _ => tv_none) (fun _ _ _ _ => (ev_cal Ccan_be_made (hr.mono (by decide)) pass_no (av_cons rfl (ev_var (pv 0)) (av_cons rfl (ev_var (pv 1)) av_nil))))) av_nil)))) (bv_one (sv_raise (cn := 4) rfl R (by rfl) (by exact T.NoWave) (by exact T.x_NoWave) (uv_f3 (ev_var (pv 1))))) bv_nil)
   (bvF_ret (ev_compF (N := ["place", "numbers"]) (k := 1) (fr := [0]) (gk_nm (by decide)) rfl ⟨rfl, rfl, rfl, rfl, rfl, rfl⟩ (iv_range1 (by rfl) T.range (av_cons rfl (ev_var (pv 1)) av_nil)) (fun _ _ _ _ => (gv_name (pg_name (i := 0) (show List.Nodup (α := Str) ["place", "numbers"] from by decide +kernel) rfl (Or.inl rfl) (Or.inr rfl)))) (fun _ _ _ _ => tv_none) (fun _ _ _ _ => (ev_cal Cdigit_wave (hr.mono (by decide)) pass_no (av_cons rfl (ev_var (pv 1)) (av_cons rfl (ev_var (pv 0)) av_nil)))))))))
theorem ok_of_values (T : Tx K mg cNoWave cTooLong cUnlike) : Cal P w K mg base (CX1 P w) 3 "of_values" ["numbers", "many"] (spM K (cl cNoWave cTooLong cUnlike) F_of_values) := (okF_of_values T).anew
theorem sc_windows : FnScope ["wave", "many"] ["wave", "many"] (defScope s_windows) := ⟨rfl, rfl, rfl, by decide +kernel, rfl, by decide +kernel, by decide +kernel, by decide +kernel⟩
theorem okF_windows (T : Tx K mg cNoWave cTooLong cUnlike) : Cal P w K mg base (CX1 P w) 1 "windows" ["wave", "many"] (spMF K (cl cNoWave cTooLong cUnlike) F_windows) := by
 obtain ⟨f, fd, F, hm, hb⟩ := T.f_windows
 have SC := sc_windows
 refine ⟨f, fd, ?_, hm, F.kp, hb⟩
 refine fn_okF (b := B_windows) F SC rfl rfl (fun cdv A outer s H E hr R => ?_) (nx_seq nx_ret)
 exact (bvF_cons (nr_if nr_rz nr_skip) (sv_if (tv_not (tv_chain od_le od_le ev_int (ev_var (pv 1)) (ev_callB cd_len (by rfl) T.len PySem.boot_len (av_cons rfl (ev_var (pv 0)) av_nil)))) (bv_one (sv_raise (cn := 5) rfl R (by rfl) (by exact T.TooLong) (by exact T.x_TooLong) (uv_f3 (ev_var (pv 1))))) bv_nil)
   (bvF_ret (ev_compF (N := ["tick", "wave", "many"]) (k := 1) (fr := [0, 1]) (gk_nm (by decide)) rfl ⟨rfl, rfl, rfl, rfl, rfl, rfl⟩ (iv_range1 (by rfl) T.range (av_cons rfl (ev_op od_add (ev_op od_sub (ev_callB cd_len (by rfl) T.len PySem.boot_len (av_cons rfl (ev_var (pv 0)) av_nil)) (ev_var (pv 1))) ev_int) av_nil)) (fun _ _ _ _ => (gv_name (pg_name (i := 0) (show List.Nodup (α := Str) ["tick", "wave", "many"] from by decide +kernel) rfl (Or.inl rfl) (Or.inr rfl)))) (fun _ _ _ _ => tv_none) (fun _ _ _ _ => (ev_slice (ev_var (pv 1)) (ov_some (ev_var (pv 0))) (ov_some (ev_op od_add (ev_var (pv 0)) (ev_var (pv 2)))))))))
theorem ok_windows (T : Tx K mg cNoWave cTooLong cUnlike) : Cal P w K mg base (CX1 P w) 1 "windows" ["wave", "many"] (spM K (cl cNoWave cTooLong cUnlike) F_windows) := (okF_windows T).anew
theorem sc_window_counts : FnScope ["wave", "many", "parts"] ["wave", "many"] (defScope s_window_counts) := ⟨rfl, rfl, rfl, by decide +kernel, rfl, by decide +kernel, by decide +kernel, by decide +kernel⟩
theorem okF_window_counts (T : Tx K mg cNoWave cTooLong cUnlike) : Cal P w K mg base (CX1 P w) 2 "window_counts" ["wave", "many"] (spMF K (cl cNoWave cTooLong cUnlike) F_window_counts) := by
 obtain ⟨f, fd, F, hm, hb⟩ := T.f_window_counts
 have SC := sc_window_counts
 have Cwindows := ok_windows (P := P) (w := w) (base := base) T
 refine ⟨f, fd, ?_, hm, F.kp, hb⟩
 refine fn_okF (b := B_window_counts) F SC rfl rfl (fun cdv A outer s H E hr R => ?_) (nx_seq nx_ret)
 exact (bvF_cons nr_asg (sv_set (i := 2) SC.nd rfl (Or.inr rfl) (ev_cal Cwindows (hr.mono (by decide)) R.pass (av_cons rfl (ev_var (pv 0)) (av_cons rfl (ev_var (pv 1)) av_nil))))
   (bvF_ret (ev_compF (N := ["part", "parts"]) (k := 1) (fr := [2]) (gk_nm (by decide)) rfl ⟨rfl, rfl, rfl, rfl, rfl, rfl⟩ (iv_of (ev_sortset rfl (by rfl) T.sorted (by rfl) T.set (ev_var (pv 2)) rfl)) (fun _ _ _ _ => (gv_name (pg_name (i := 0) (show List.Nodup (α := Str) ["part", "parts"] from by decide +kernel) rfl (Or.inl rfl) (Or.inr rfl)))) (fun _ _ _ _ => tv_none) (fun _ _ _ _ => (ev_tup (av_cons rfl (ev_var (pv 0)) (av_cons rfl (ev_lcnt (ev_var (pv 1)) (av_cons rfl (ev_var (pv 0)) av_nil) rfl) av_nil)))))))
theorem ok_window_counts (T : Tx K mg cNoWave cTooLong cUnlike) : Cal P w K mg base (CX1 P w) 2 "window_counts" ["wave", "many"] (spM K (cl cNoWave cTooLong cUnlike) F_window_counts) := (okF_window_counts T).anew
theorem sc_changes : FnScope ["wave"] ["wave"] (defScope s_changes) := ⟨rfl, rfl, rfl, by decide +kernel, rfl, by decide +kernel, by decide +kernel, by decide +kernel⟩
theorem ok_changes (T : Tx K mg cNoWave cTooLong cUnlike) : Cal P w K mg base (CX1 P w) 1 "changes" ["wave"] (spM K (cl cNoWave cTooLong cUnlike) F_changes) := by
 obtain ⟨f, fd, F, hm, hb⟩ := T.f_changes
 have SC := sc_changes
 refine ⟨f, fd, ?_, hm, F.kp, hb⟩
 refine fn_ok (b := B_changes) F SC rfl rfl fun cdv A outer s H E hr R => ?_
 exact (bv_one (sv_ret (ev_comp (N := ["tick", "wave"]) (k := 1) (fr := [0]) (gk_nm (by decide)) rfl ⟨rfl, rfl, rfl, rfl, rfl, rfl⟩ (iv_range2 (by rfl) T.range (av_cons rfl ev_int (av_cons rfl (ev_callB cd_len (by rfl) T.len PySem.boot_len (av_cons rfl (ev_var (pv 0)) av_nil)) av_nil))) (fun _ _ _ _ => (gv_name (pg_name (i := 0) (show List.Nodup (α := Str) ["tick", "wave"] from by decide +kernel) rfl (Or.inl rfl) (Or.inr rfl)))) (fun _ _ _ _ => (tv_one (tv_cmp (od_ne (hu50 hr)) (ev_ix (ev_var (pv 1)) (ev_var (pv 0)) (fun _ _ => rfl)) (ev_ix (ev_var (pv 1)) (ev_op od_sub (ev_var (pv 0)) ev_int) (fun _ _ => rfl)) (nomark _)))) (fun _ _ _ _ => (ev_tup (av_cons rfl (ev_var (pv 0)) (av_cons rfl (ev_ix (ev_var (pv 1)) (ev_op od_sub (ev_var (pv 0)) ev_int) (fun _ _ => rfl)) (av_cons rfl (ev_ix (ev_var (pv 1)) (ev_var (pv 0)) (fun _ _ => rfl)) av_nil))))))))
theorem sc_rises : FnScope ["wave"] ["wave"] (defScope s_rises) := ⟨rfl, rfl, rfl, by decide +kernel, rfl, by decide +kernel, by decide +kernel, by decide +kernel⟩
theorem ok_rises (T : Tx K mg cNoWave cTooLong cUnlike) : Cal P w K mg base (CX1 P w) 2 "rises" ["wave"] (spM K (cl cNoWave cTooLong cUnlike) F_rises) := by
 obtain ⟨f, fd, F, hm, hb⟩ := T.f_rises
 have SC := sc_rises
 have Cchanges := ok_changes (P := P) (w := w) (base := base) T
 refine ⟨f, fd, ?_, hm, F.kp, hb⟩
 refine fn_ok (b := B_rises) F SC rfl rfl fun cdv A outer s H E hr R => ?_
 exact (bv_one (sv_ret (ev_comp (N := ["tick", "ahead", "level"]) (k := 3) (fr := []) (gk_tp (gks_cons (gk_nm (by decide)) (gks_cons (gk_nm (by decide)) (gks_cons (gk_nm (by decide)) gks_nil)))) rfl ⟨rfl, rfl, rfl, rfl, rfl, rfl⟩ (iv_of (ev_cal Cchanges (hr.mono (by decide)) R.pass (av_cons rfl (ev_var (pv 0)) av_nil))) (fun _ _ _ _ => (gv_tup (n := 3) rfl (gvs_cons (gv_name (pg_name (i := 0) (show List.Nodup (α := Str) ["tick", "ahead", "level"] from by decide +kernel) rfl (Or.inl rfl) (Or.inr rfl))) (gvs_cons (gv_name (pg_name (i := 1) (show List.Nodup (α := Str) ["tick", "ahead", "level"] from by decide +kernel) rfl (Or.inl rfl) (Or.inr rfl))) (gvs_cons (gv_name (pg_name (i := 2) (show List.Nodup (α := Str) ["tick", "ahead", "level"] from by decide +kernel) rfl (Or.inl rfl) (Or.inr rfl))) gvs_nil))))) (fun _ _ _ _ => (tv_one (PW.pt (wv_and (tv_cmp (od_eq (hu50 hr)) (ev_var (pv 1)) (ev_S (l := [48])) (nomark _)) (wv_and1 (tv_cmp (od_eq (hu50 hr)) (ev_var (pv 2)) (ev_S (l := [49])) (nomark _))))))) (fun _ _ _ _ => (ev_var (pv 0))))))
theorem sc_count_within : FnScope ["ticks", "start", "end"] ["ticks", "start", "end"] (defScope s_count_within) := ⟨rfl, rfl, rfl, by decide +kernel, rfl, by decide +kernel, by decide +kernel, by decide +kernel⟩
theorem ok_count_within (T : Tx K mg cNoWave cTooLong cUnlike) : Cal P w K mg base (CX1 P w) 1 "count_within" ["ticks", "start", "end"] (spM K (cl cNoWave cTooLong cUnlike) F_count_within) := by
 obtain ⟨f, fd, F, hm, hb⟩ := T.f_count_within
 have SC := sc_count_within
 refine ⟨f, fd, ?_, hm, F.kp, hb⟩
 refine fn_ok (b := B_count_within) F SC rfl rfl fun cdv A outer s H E hr R => ?_
 exact (bv_one (sv_ret (ev_callB cd_len (by rfl) T.len PySem.boot_len (av_cons rfl (ev_comp (N := ["tick", "start", "end"]) (k := 1) (fr := [1, 2]) (gk_nm (by decide)) rfl ⟨rfl, rfl, rfl, rfl, rfl, rfl⟩ (iv_of (ev_var (pv 0))) (fun _ _ _ _ => (gv_name (pg_name (i := 0) (show List.Nodup (α := Str) ["tick", "start", "end"] from by decide +kernel) rfl (Or.inl rfl) (Or.inr rfl)))) (fun _ _ _ _ => (tv_one (tv_chain od_le od_lt (ev_var (pv 1)) (ev_var (pv 0)) (ev_var (pv 2))))) (fun _ _ _ _ => (ev_var (pv 0)))) av_nil))))
theorem sc_changes_between : FnScope ["wave", "beat", "ticks", "marks"] ["wave", "beat"] (defScope s_changes_between) := ⟨rfl, rfl, rfl, by decide +kernel, rfl, by decide +kernel, by decide +kernel, by decide +kernel⟩
theorem okF_changes_between (T : Tx K mg cNoWave cTooLong cUnlike) : Cal P w K mg base (CX1 P w) 3 "changes_between" ["wave", "beat"] (spMF K (cl cNoWave cTooLong cUnlike) F_changes_between) := by
 obtain ⟨f, fd, F, hm, hb⟩ := T.f_changes_between
 have SC := sc_changes_between
 have Crefuse_unlike := ok_refuse_unlike (P := P) (w := w) (base := base) T
 have Crises := ok_rises (P := P) (w := w) (base := base) T
 have Ccount_within := ok_count_within (P := P) (w := w) (base := base) T
 have Cchanges := ok_changes (P := P) (w := w) (base := base) T
 refine ⟨f, fd, ?_, hm, F.kp, hb⟩
 refine fn_okF (b := B_changes_between) F SC rfl rfl (fun cdv A outer s H E hr R => ?_) (nx_seq (nx_seq (nx_seq nx_ret)))
 exact (bvF_cons nr_drop (sv_drop (ev_cal Crefuse_unlike (hr.mono (by decide)) R.pass (av_cons rfl (ev_lst (av_cons rfl (ev_var (pv 0)) (av_cons rfl (ev_var (pv 1)) av_nil))) av_nil)))
   (bvF_cons nr_asg (sv_set (i := 2) SC.nd rfl (Or.inr rfl) (ev_comp (N := ["tick", "ahead", "level"]) (k := 3) (fr := []) (gk_tp (gks_cons (gk_nm (by decide)) (gks_cons (gk_nm (by decide)) (gks_cons (gk_nm (by decide)) gks_nil)))) rfl ⟨rfl, rfl, rfl, rfl, rfl, rfl⟩ (iv_of (ev_cal Cchanges (hr.mono (by decide)) R.pass (av_cons rfl (ev_var (pv 0)) av_nil))) (fun _ _ _ _ => (gv_tup (n := 3) rfl (gvs_cons (gv_name (pg_name (i := 0) (show List.Nodup (α := Str) ["tick", "ahead", "level"] from by decide +kernel) rfl (Or.inl rfl) (Or.inr rfl))) (gvs_cons (gv_name (pg_name (i := 1) (show List.Nodup (α := Str) ["tick", "ahead", "level"] from by decide +kernel) rfl (Or.inl rfl) (Or.inr rfl))) (gvs_cons (gv_name (pg_name (i := 2) (show List.Nodup (α := Str) ["tick", "ahead", "level"] from by decide +kernel) rfl (Or.inl rfl) (Or.inr rfl))) gvs_nil))))) (fun _ _ _ _ => tv_none) (fun _ _ _ _ => (ev_var (pv 0)))))
   (bvF_cons nr_asg (sv_set (i := 3) SC.nd rfl (Or.inl rfl) (ev_cal Crises (hr.mono (by decide)) R.pass (av_cons rfl (ev_var (pv 1)) av_nil)))
   (bvF_ret (ev_compF (N := ["start", "end", "ticks"]) (k := 2) (fr := [2]) (gk_tp (gks_cons (gk_nm (by decide)) (gks_cons (gk_nm (by decide)) gks_nil))) rfl ⟨rfl, rfl, rfl, rfl, rfl, rfl⟩ (iv_zip2 (by rfl) T.zip (av_cons rfl (ev_op od_add (ev_lst (av_cons rfl ev_int av_nil)) (ev_var (pv 3))) (av_cons rfl (ev_op od_add (ev_var (pv 3)) (ev_lst (av_cons rfl (ev_callB cd_len (by rfl) T.len PySem.boot_len (av_cons rfl (ev_var (pv 0)) av_nil)) av_nil))) av_nil))) (fun _ _ _ _ => (gv_tup (n := 2) rfl (gvs_cons (gv_name (pg_name (i := 0) (show List.Nodup (α := Str) ["start", "end", "ticks"] from by decide +kernel) rfl (Or.inl rfl) (Or.inr rfl))) (gvs_cons (gv_name (pg_name (i := 1) (show List.Nodup (α := Str) ["start", "end", "ticks"] from by decide +kernel) rfl (Or.inl rfl) (Or.inr rfl))) gvs_nil)))) (fun _ _ _ _ => tv_none) (fun _ _ _ _ => (ev_cal Ccount_within (hr.mono (by decide)) pass_no (av_cons rfl (ev_var (pv 2)) (av_cons rfl (ev_var (pv 0)) (av_cons rfl (ev_var (pv 1)) av_nil))))))))))
theorem ok_changes_between (T : Tx K mg cNoWave cTooLong cUnlike) : Cal P w K mg base (CX1 P w) 3 "changes_between" ["wave", "beat"] (spM K (cl cNoWave cTooLong cUnlike) F_changes_between) := (okF_changes_between T).anew
theorem sc_all_high : FnScope ["waves"] ["waves"] (defScope s_all_high) := ⟨rfl, rfl, rfl, by decide +kernel, rfl, by decide +kernel, by decide +kernel, by decide +kernel⟩
theorem okF_all_high (T : Tx K mg cNoWave cTooLong cUnlike) : Cal P w K mg base (CX1 P w) 4 "all_high" ["waves"] (spMF K (cl cNoWave cTooLong cUnlike) F_all_high) := by
 obtain ⟨f, fd, F, hm, hb⟩ := T.f_all_high
 have SC := sc_all_high
 have Ccommon_length := ok_common_length (P := P) (w := w) (base := base) T
 refine ⟨f, fd, ?_, hm, F.kp, hb⟩
 refine fn_okF (b := B_all_high) F SC rfl rfl (fun cdv A outer s H E hr R => ?_) nx_ret
 exact (bvF_ret (ev_compF (N := ["tick", "waves"]) (k := 1) (fr := [0]) (gk_nm (by decide)) rfl ⟨rfl, rfl, rfl, rfl, rfl, rfl⟩ (iv_range1 (by rfl) T.range (av_cons rfl (ev_cal Ccommon_length (hr.mono (by decide)) R.pass (av_cons rfl (ev_var (pv 0)) av_nil)) av_nil)) (fun _ _ _ _ => (gv_name (pg_name (i := 0) (show List.Nodup (α := Str) ["tick", "waves"] from by decide +kernel) rfl (Or.inr rfl) (Or.inl rfl)))) (fun _ _ _ _ => (tv_one (tv_val (ev_callB (cd_all rfl) (by rfl) T.all boot_all (av_cons rfl (ev_comp (N := ["wave", "tick"]) (k := 1) (fr := [0]) (gk_nm (by decide)) rfl ⟨rfl, rfl, rfl, rfl, rfl, rfl⟩ (iv_of (ev_var (pv 1))) (fun _ _ _ _ => (gv_name (pg_name (i := 0) (show List.Nodup (α := Str) ["wave", "tick"] from by decide +kernel) rfl (Or.inl rfl) (Or.inr rfl)))) (fun _ _ _ _ => tv_none) (fun _ _ _ _ => (ev_cmp (od_eq (hu50 hr)) (ev_ix (ev_var (pv 0)) (ev_var (pv 1)) (fun _ _ => rfl)) (ev_S (l := [49])) (nomark _)))) av_nil))))) (fun _ _ _ _ => (ev_var (pv 0)))))
theorem ok_all_high (T : Tx K mg cNoWave cTooLong cUnlike) : Cal P w K mg base (CX1 P w) 4 "all_high" ["waves"] (spM K (cl cNoWave cTooLong cUnlike) F_all_high) := (okF_all_high T).anew
theorem sc_law : FnScope ["_law_script", "_law_waves", "_law_mine", "_law_numbers", "_law_good"] ["_law_script"] (defScope s_law) := ⟨rfl, rfl, rfl, by decide +kernel, rfl, by decide +kernel, by decide +kernel, by decide +kernel⟩
abbrev qLaw : Str := (("law" : Str) ++ ".<locals>.") ++ "<lambda>"
theorem ok_law (hG : ∀ ns : List Int, ns.length ≤ 63 → F_law [.lst (ns.map Dt.int)] = .ok (.bl true)) (T : Tx K mg cNoWave cTooLong cUnlike) {f : Addr} {fd : FuncData} {cT PT : Addr} (F : Fun K "law" "law" s_law f fd) (hcT : fd.code = .ref cT) (LB : LamB mg base cT PT) : FnOk P w K mg base (CX1 P w) 8 f fd ["_law_script"] (spLawT K [(cT, PT, qLaw)]) := by
 have SC := sc_law
 have CL_wave := ok__law_wave (P := P) (w := w) (base := base) T
 have CL_stays := ok__law_stays (P := P) (w := w) (base := base) T
 have Cvalues_of := ok_values_of (P := P) (w := w) (base := base) T
 have Cvalue_bounds := ok_value_bounds (P := P) (w := w) (base := base) T
 have Cvalue_changes := ok_value_changes (P := P) (w := w) (base := base) T
 have Cof_values := ok_of_values (P := P) (w := w) (base := base) T
 have Cwindows := ok_windows (P := P) (w := w) (base := base) T
 have Cwindow_counts := ok_window_counts (P := P) (w := w) (base := base) T
 have Cchanges_between := ok_changes_between (P := P) (w := w) (base := base) T
 have Call_high := ok_all_high (P := P) (w := w) (base := base) T
 have Fvalues_of := okF_values_of (P := P) (w := w) (base := base) T
 have Fvalue_bounds := okF_value_bounds (P := P) (w := w) (base := base) T
 have Fvalue_changes := okF_value_changes (P := P) (w := w) (base := base) T
 have Fof_values := okF_of_values (P := P) (w := w) (base := base) T
 have Fwindows := okF_windows (P := P) (w := w) (base := base) T
 have Fwindow_counts := okF_window_counts (P := P) (w := w) (base := base) T
 have Fchanges_between := okF_changes_between (P := P) (w := w) (base := base) T
 have Fall_high := okF_all_high (P := P) (w := w) (base := base) T
 refine law_okT (cls := (cl cNoWave cTooLong cUnlike)) (G := F_law) ?_ hG
 refine fn_okT0 (b := B_law) F SC rfl rfl fun cdv A outer s H E hcv hTb hr R => ?_
 have hcE := hcv.trans hcT
 have hT0 : H PT = some (.tbl qLaw) := hTb _ List.mem_cons_self
 exact (bv0_cons (sv0_set (i := 1) SC.nd rfl (Or.inr rfl) (ev0_comp (N := ["_law_k", "_law_script"]) (k := 1) (fr := [0]) (gk_nm (by decide)) rfl ⟨rfl, rfl, rfl, rfl, rfl, rfl⟩ (iv0_range1 (by rfl) T.range (av0_cons rfl ev0_int av_nil)) (fun _ _ _ _ => (gv_name (pg_name (i := 0) (show List.Nodup (α := Str) ["_law_k", "_law_script"] from by decide +kernel) rfl (Or.inl rfl) (Or.inr rfl)))) (fun _ _ _ _ => tv_none) (fun _ _ _ _ => (ev_cal CL_wave (hr.mono (by decide)) pass_no (av_cons rfl (ev_var (pv 1)) (av_cons rfl (ev_op od_add ev_int (ev_op od_mul ev_int (ev_var (pv 0)))) (av_cons rfl ev_int (av_cons rfl (ev_S (l := [48, 49, 120])) av_nil))))))))
   (bv_cons (sv_asg (ev_tup (av_cons rfl (ev_callTy (cd_list rfl) (by rfl) T.list boot_list (av_cons rfl (ev_var (pv 1)) av_nil)) (av_cons rfl (ev_lst (av_cons rfl ev_int (av_cons rfl ev_non (av_cons rfl ev_int av_nil)))) av_nil))) (gv_tup (n := 2) rfl (gvs_cons (gv_name (pg_name (i := 2) SC.nd rfl (Or.inl rfl))) (gvs_cons (gv_name (pg_name (i := 3) SC.nd rfl (Or.inr rfl))) gvs_nil))))
   (bv_cons (sv_own (i := 4) SC.nd rfl (Or.inl rfl) (av_cons rfl (ev_stays (N := ["_law_waves"]) (fr := [1]) (k := 5) CL_stays (hr.mono (by decide)) R.pass (by rfl) ⟨⟨rfl, rfl, rfl, rfl, rfl, rfl⟩, rfl, rfl, by decide +kernel⟩ hcE LB hT0 rfl rfl bind0 (fun _ _ _ _ _ _ _ hr2 R2 => (ev_calF Fvalues_of (hr2.mono (by decide)) R2.pass (av_cons rfl (ev_var (pv 0)) av_nil)))) av_nil))
   (bv_cons (sv_append (pv 4) rfl (ev_stays (N := ["_law_waves"]) (fr := [1]) (k := 5) CL_stays (hr.mono (by decide)) R.pass (by rfl) ⟨⟨rfl, rfl, rfl, rfl, rfl, rfl⟩, rfl, rfl, by decide +kernel⟩ hcE LB hT0 rfl rfl bind0 (fun _ _ _ _ _ _ _ hr2 R2 => (ev_calF Fvalue_bounds (hr2.mono (by decide)) R2.pass (av_cons rfl (ev_var (pv 0)) av_nil)))))
   (bv_cons (sv_append (pv 4) rfl (ev_stays (N := ["_law_waves"]) (fr := [1]) (k := 5) CL_stays (hr.mono (by decide)) R.pass (by rfl) ⟨⟨rfl, rfl, rfl, rfl, rfl, rfl⟩, rfl, rfl, by decide +kernel⟩ hcE LB hT0 rfl rfl bind0 (fun _ _ _ _ _ _ _ hr2 R2 => (ev_calF Fvalue_changes (hr2.mono (by decide)) R2.pass (av_cons rfl (ev_var (pv 0)) av_nil)))))
   (bv_cons (sv_append (pv 4) rfl (ev_stays (N := ["_law_numbers"]) (fr := [3]) (k := 5) CL_stays (hr.mono (by decide)) R.pass (by rfl) ⟨⟨rfl, rfl, rfl, rfl, rfl, rfl⟩, rfl, rfl, by decide +kernel⟩ hcE LB hT0 rfl rfl bind0 (fun _ _ _ _ _ _ _ hr2 R2 => (ev_calF Fof_values (hr2.mono (by decide)) R2.pass (av_cons rfl (ev_var (pv 0)) (av_cons rfl ev_int av_nil))))))
   (bv_cons (sv_append (pv 4) rfl (ev_stays (N := ["_law_waves"]) (fr := [1]) (k := 5) CL_stays (hr.mono (by decide)) R.pass (by rfl) ⟨⟨rfl, rfl, rfl, rfl, rfl, rfl⟩, rfl, rfl, by decide +kernel⟩ hcE LB hT0 rfl rfl bind0 (fun _ _ _ _ _ _ _ hr2 R2 => (ev_calF Fwindows (hr2.mono (by decide)) R2.pass (av_cons rfl (ev_ix (ev_var (pv 0)) ev_int (fun _ _ => rfl)) (av_cons rfl ev_int av_nil))))))
   (bv_cons (sv_append (pv 4) rfl (ev_stays (N := ["_law_waves"]) (fr := [1]) (k := 5) CL_stays (hr.mono (by decide)) R.pass (by rfl) ⟨⟨rfl, rfl, rfl, rfl, rfl, rfl⟩, rfl, rfl, by decide +kernel⟩ hcE LB hT0 rfl rfl bind0 (fun _ _ _ _ _ _ _ hr2 R2 => (ev_calF Fwindow_counts (hr2.mono (by decide)) R2.pass (av_cons rfl (ev_ix (ev_var (pv 0)) ev_int (fun _ _ => rfl)) (av_cons rfl ev_int av_nil))))))
   (bv_cons (sv_append (pv 4) rfl (ev_stays (N := ["_law_waves"]) (fr := [1]) (k := 5) CL_stays (hr.mono (by decide)) R.pass (by rfl) ⟨⟨rfl, rfl, rfl, rfl, rfl, rfl⟩, rfl, rfl, by decide +kernel⟩ hcE LB hT0 rfl rfl bind0 (fun _ _ _ _ _ _ _ hr2 R2 => (ev_calF Fchanges_between (hr2.mono (by decide)) R2.pass (av_cons rfl (ev_ix (ev_var (pv 0)) ev_int (fun _ _ => rfl)) (av_cons rfl (ev_ix (ev_var (pv 0)) ev_int (fun _ _ => rfl)) av_nil))))))
   (bv_cons (sv_append (pv 4) rfl (ev_stays (N := ["_law_waves"]) (fr := [1]) (k := 5) CL_stays (hr.mono (by decide)) R.pass (by rfl) ⟨⟨rfl, rfl, rfl, rfl, rfl, rfl⟩, rfl, rfl, by decide +kernel⟩ hcE LB hT0 rfl rfl bind0 (fun _ _ _ _ _ _ _ hr2 R2 => (ev_calF Fall_high (hr2.mono (by decide)) R2.pass (av_cons rfl (ev_var (pv 0)) av_nil)))))
   (bv_rel 4 (bv_one (sv_ret (ev_and (ev_cmp (od_eq (hu50 hr)) (ev_var (pv 4)) (ev_rep (av_cons rfl ev_bl av_nil) ev_int) (nomark _)) (ev_and (ev_cmp (od_eq (hu50 hr)) (ev_var (pv 1)) (ev_var (pv 2)) (nomark _)) (ev_one (ev_cmp (od_eq (hu50 hr)) (ev_var (pv 3)) (ev_lst (av_cons rfl ev_int (av_cons rfl ev_non (av_cons rfl ev_int av_nil)))) (nomark _))))))))))))))))))
end
theorem all_mk (hG : ∀ ns : List Int, ns.length ≤ 63 → F_law [.lst (ns.map Dt.int)] = .ok (.bl true)) {l : PySem.W.OpenLaw} {w : World} {K : PySem.W.Frag} {h : Heap} {mg : Str → Option Value} {fa : Addr} (X : K.In h) (G : h.Ns mainGlobals mg) (hfa : mg "law" = some (.ref fa))
  {od0 an0 : Option Addr} {sl0 : Array (Option Value)} {oc0 kV0 dc0 pm0 cd0 ct0 : Value} {a0 : Addr}
  {od1 an1 : Option Addr} {sl1 : Array (Option Value)} {oc1 kV1 dc1 pm1 cd1 ct1 : Value} {a1 : Addr}
  {od2 an2 : Option Addr} {sl2 : Array (Option Value)} {oc2 kV2 dc2 pm2 cd2 ct2 : Value} {a2 : Addr}
  {od3 an3 : Option Addr} {sl3 : Array (Option Value)} {oc3 kV3 dc3 pm3 cd3 ct3 : Value} {a3 : Addr}
  {od4 an4 : Option Addr} {sl4 : Array (Option Value)} {oc4 kV4 dc4 pm4 cd4 ct4 : Value} {a4 : Addr}
  {od5 an5 : Option Addr} {sl5 : Array (Option Value)} {oc5 kV5 dc5 pm5 cd5 ct5 : Value} {a5 : Addr}
  {od6 an6 : Option Addr} {sl6 : Array (Option Value)} {oc6 kV6 dc6 pm6 cd6 ct6 : Value} {a6 : Addr}
  {od7 an7 : Option Addr} {sl7 : Array (Option Value)} {oc7 kV7 dc7 pm7 cd7 ct7 : Value} {a7 : Addr}
  {od8 an8 : Option Addr} {sl8 : Array (Option Value)} {oc8 kV8 dc8 pm8 cd8 ct8 : Value} {a8 : Addr}
  {od9 an9 : Option Addr} {sl9 : Array (Option Value)} {oc9 kV9 dc9 pm9 cd9 ct9 : Value} {a9 : Addr}
  {od10 an10 : Option Addr} {sl10 : Array (Option Value)} {oc10 kV10 dc10 pm10 cd10 ct10 : Value} {a10 : Addr}
  {od11 an11 : Option Addr} {sl11 : Array (Option Value)} {oc11 kV11 dc11 pm11 cd11 ct11 : Value} {a11 : Addr}
  {od12 an12 : Option Addr} {sl12 : Array (Option Value)} {oc12 kV12 dc12 pm12 cd12 ct12 : Value} {a12 : Addr}
  {od13 an13 : Option Addr} {sl13 : Array (Option Value)} {oc13 kV13 dc13 pm13 cd13 ct13 : Value} {a13 : Addr}
  {od14 an14 : Option Addr} {sl14 : Array (Option Value)} {oc14 kV14 dc14 pm14 cd14 ct14 : Value} {a14 : Addr}
  {od15 an15 : Option Addr} {sl15 : Array (Option Value)} {oc15 kV15 dc15 pm15 cd15 ct15 : Value} {a15 : Addr}
  {od16 an16 : Option Addr} {sl16 : Array (Option Value)} {oc16 kV16 dc16 pm16 cd16 ct16 : Value} {a16 : Addr}
  {od17 an17 : Option Addr} {sl17 : Array (Option Value)} {oc17 kV17 dc17 pm17 cd17 ct17 : Value} {a17 : Addr}
  {od18 an18 : Option Addr} {sl18 : Array (Option Value)} {oc18 kV18 dc18 pm18 cd18 ct18 : Value} {a18 : Addr}
  {od19 an19 : Option Addr} {sl19 : Array (Option Value)} {oc19 kV19 dc19 pm19 cd19 ct19 : Value} {a19 : Addr}
  {od20 an20 : Option Addr} {sl20 : Array (Option Value)} {oc20 kV20 dc20 pm20 cd20 ct20 : Value} {a20 : Addr}
  {od21 an21 : Option Addr} {sl21 : Array (Option Value)} {oc21 kV21 dc21 pm21 cd21 ct21 : Value} {a21 : Addr}
  {od22 an22 : Option Addr} {sl22 : Array (Option Value)} {oc22 kV22 dc22 pm22 cd22 ct22 : Value} {a22 : Addr}
  {od23 an23 : Option Addr} {sl23 : Array (Option Value)} {oc23 kV23 dc23 pm23 cd23 ct23 : Value} {a23 : Addr}
  {od24 an24 : Option Addr} {sl24 : Array (Option Value)} {oc24 kV24 dc24 pm24 cd24 ct24 : Value} {a24 : Addr}
  {cNoWave : Addr}
  {cTooLong : Addr}
  {cUnlike : Addr}
  {t_MOST_TICKS : Tok}
  {t_MOST_WAVES : Tok}
  {cT PT : Addr}
  (a0_ : PySem.W.nsIn K mainGlobals "_law_cell" = some (some (.ref a0))) (l0 : K.lookup a0 = some ⟨oc0, od0, .func (PySem.W.fnOf "_law_cell" "_law_cell" (defArgs s_law_cell) (defBody s_law_cell) (defScope s_law_cell) .none kV0 dc0 pm0 an0 cd0 ct0), sl0⟩) (c0 : PySem.W.codeIn K cd0 "_law_cell" = true) (k0 : PySem.W.keepIn K (.ref a0) = true)
  (a1_ : PySem.W.nsIn K mainGlobals "_law_pick" = some (some (.ref a1))) (l1 : K.lookup a1 = some ⟨oc1, od1, .func (PySem.W.fnOf "_law_pick" "_law_pick" (defArgs s_law_pick) (defBody s_law_pick) (defScope s_law_pick) .none kV1 dc1 pm1 an1 cd1 ct1), sl1⟩) (c1 : PySem.W.codeIn K cd1 "_law_pick" = true) (k1 : PySem.W.keepIn K (.ref a1) = true)
  (a2_ : PySem.W.nsIn K mainGlobals "_law_wave" = some (some (.ref a2))) (l2 : K.lookup a2 = some ⟨oc2, od2, .func (PySem.W.fnOf "_law_wave" "_law_wave" (defArgs s_law_wave) (defBody s_law_wave) (defScope s_law_wave) .none kV2 dc2 pm2 an2 cd2 ct2), sl2⟩) (c2 : PySem.W.codeIn K cd2 "_law_wave" = true) (k2 : PySem.W.keepIn K (.ref a2) = true)
  (a3_ : PySem.W.nsIn K mainGlobals "_law_stays" = some (some (.ref a3))) (l3 : K.lookup a3 = some ⟨oc3, od3, .func (PySem.W.fnOf "_law_stays" "_law_stays" (defArgs s_law_stays) (defBody s_law_stays) (defScope s_law_stays) .none kV3 dc3 pm3 an3 cd3 ct3), sl3⟩) (c3 : PySem.W.codeIn K cd3 "_law_stays" = true) (k3 : PySem.W.keepIn K (.ref a3) = true)
  (a4_ : PySem.W.nsIn K mainGlobals "value_at" = some (some (.ref a4))) (l4 : K.lookup a4 = some ⟨oc4, od4, .func (PySem.W.fnOf "value_at" "value_at" (defArgs s_value_at) (defBody s_value_at) (defScope s_value_at) .none kV4 dc4 pm4 an4 cd4 ct4), sl4⟩) (c4 : PySem.W.codeIn K cd4 "value_at" = true) (k4 : PySem.W.keepIn K (.ref a4) = true)
  (a5_ : PySem.W.nsIn K mainGlobals "of_one_length" = some (some (.ref a5))) (l5 : K.lookup a5 = some ⟨oc5, od5, .func (PySem.W.fnOf "of_one_length" "of_one_length" (defArgs s_of_one_length) (defBody s_of_one_length) (defScope s_of_one_length) .none kV5 dc5 pm5 an5 cd5 ct5), sl5⟩) (c5 : PySem.W.codeIn K cd5 "of_one_length" = true) (k5 : PySem.W.keepIn K (.ref a5) = true)
  (a6_ : PySem.W.nsIn K mainGlobals "refuse_unlike" = some (some (.ref a6))) (l6 : K.lookup a6 = some ⟨oc6, od6, .func (PySem.W.fnOf "refuse_unlike" "refuse_unlike" (defArgs s_refuse_unlike) (defBody s_refuse_unlike) (defScope s_refuse_unlike) .none kV6 dc6 pm6 an6 cd6 ct6), sl6⟩) (c6 : PySem.W.codeIn K cd6 "refuse_unlike" = true) (k6 : PySem.W.keepIn K (.ref a6) = true)
  (a7_ : PySem.W.nsIn K mainGlobals "common_length" = some (some (.ref a7))) (l7 : K.lookup a7 = some ⟨oc7, od7, .func (PySem.W.fnOf "common_length" "common_length" (defArgs s_common_length) (defBody s_common_length) (defScope s_common_length) .none kV7 dc7 pm7 an7 cd7 ct7), sl7⟩) (c7 : PySem.W.codeIn K cd7 "common_length" = true) (k7 : PySem.W.keepIn K (.ref a7) = true)
  (a8_ : PySem.W.nsIn K mainGlobals "values_of" = some (some (.ref a8))) (l8 : K.lookup a8 = some ⟨oc8, od8, .func (PySem.W.fnOf "values_of" "values_of" (defArgs s_values_of) (defBody s_values_of) (defScope s_values_of) .none kV8 dc8 pm8 an8 cd8 ct8), sl8⟩) (c8 : PySem.W.codeIn K cd8 "values_of" = true) (k8 : PySem.W.keepIn K (.ref a8) = true)
  (a9_ : PySem.W.nsIn K mainGlobals "value_bounds" = some (some (.ref a9))) (l9 : K.lookup a9 = some ⟨oc9, od9, .func (PySem.W.fnOf "value_bounds" "value_bounds" (defArgs s_value_bounds) (defBody s_value_bounds) (defScope s_value_bounds) .none kV9 dc9 pm9 an9 cd9 ct9), sl9⟩) (c9 : PySem.W.codeIn K cd9 "value_bounds" = true) (k9 : PySem.W.keepIn K (.ref a9) = true)
  (a10_ : PySem.W.nsIn K mainGlobals "is_change" = some (some (.ref a10))) (l10 : K.lookup a10 = some ⟨oc10, od10, .func (PySem.W.fnOf "is_change" "is_change" (defArgs s_is_change) (defBody s_is_change) (defScope s_is_change) .none kV10 dc10 pm10 an10 cd10 ct10), sl10⟩) (c10 : PySem.W.codeIn K cd10 "is_change" = true) (k10 : PySem.W.keepIn K (.ref a10) = true)
  (a11_ : PySem.W.nsIn K mainGlobals "value_changes" = some (some (.ref a11))) (l11 : K.lookup a11 = some ⟨oc11, od11, .func (PySem.W.fnOf "value_changes" "value_changes" (defArgs s_value_changes) (defBody s_value_changes) (defScope s_value_changes) .none kV11 dc11 pm11 an11 cd11 ct11), sl11⟩) (c11 : PySem.W.codeIn K cd11 "value_changes" = true) (k11 : PySem.W.keepIn K (.ref a11) = true)
  (a12_ : PySem.W.nsIn K mainGlobals "refuse_too_long" = some (some (.ref a12))) (l12 : K.lookup a12 = some ⟨oc12, od12, .func (PySem.W.fnOf "refuse_too_long" "refuse_too_long" (defArgs s_refuse_too_long) (defBody s_refuse_too_long) (defScope s_refuse_too_long) .none kV12 dc12 pm12 an12 cd12 ct12), sl12⟩) (c12 : PySem.W.codeIn K cd12 "refuse_too_long" = true) (k12 : PySem.W.keepIn K (.ref a12) = true)
  (a13_ : PySem.W.nsIn K mainGlobals "digit_at" = some (some (.ref a13))) (l13 : K.lookup a13 = some ⟨oc13, od13, .func (PySem.W.fnOf "digit_at" "digit_at" (defArgs s_digit_at) (defBody s_digit_at) (defScope s_digit_at) .none kV13 dc13 pm13 an13 cd13 ct13), sl13⟩) (c13 : PySem.W.codeIn K cd13 "digit_at" = true) (k13 : PySem.W.keepIn K (.ref a13) = true)
  (a14_ : PySem.W.nsIn K mainGlobals "digit_wave" = some (some (.ref a14))) (l14 : K.lookup a14 = some ⟨oc14, od14, .func (PySem.W.fnOf "digit_wave" "digit_wave" (defArgs s_digit_wave) (defBody s_digit_wave) (defScope s_digit_wave) .none kV14 dc14 pm14 an14 cd14 ct14), sl14⟩) (c14 : PySem.W.codeIn K cd14 "digit_wave" = true) (k14 : PySem.W.keepIn K (.ref a14) = true)
  (a15_ : PySem.W.nsIn K mainGlobals "can_be_made" = some (some (.ref a15))) (l15 : K.lookup a15 = some ⟨oc15, od15, .func (PySem.W.fnOf "can_be_made" "can_be_made" (defArgs s_can_be_made) (defBody s_can_be_made) (defScope s_can_be_made) .none kV15 dc15 pm15 an15 cd15 ct15), sl15⟩) (c15 : PySem.W.codeIn K cd15 "can_be_made" = true) (k15 : PySem.W.keepIn K (.ref a15) = true)
  (a16_ : PySem.W.nsIn K mainGlobals "of_values" = some (some (.ref a16))) (l16 : K.lookup a16 = some ⟨oc16, od16, .func (PySem.W.fnOf "of_values" "of_values" (defArgs s_of_values) (defBody s_of_values) (defScope s_of_values) .none kV16 dc16 pm16 an16 cd16 ct16), sl16⟩) (c16 : PySem.W.codeIn K cd16 "of_values" = true) (k16 : PySem.W.keepIn K (.ref a16) = true)
  (a17_ : PySem.W.nsIn K mainGlobals "windows" = some (some (.ref a17))) (l17 : K.lookup a17 = some ⟨oc17, od17, .func (PySem.W.fnOf "windows" "windows" (defArgs s_windows) (defBody s_windows) (defScope s_windows) .none kV17 dc17 pm17 an17 cd17 ct17), sl17⟩) (c17 : PySem.W.codeIn K cd17 "windows" = true) (k17 : PySem.W.keepIn K (.ref a17) = true)
  (a18_ : PySem.W.nsIn K mainGlobals "window_counts" = some (some (.ref a18))) (l18 : K.lookup a18 = some ⟨oc18, od18, .func (PySem.W.fnOf "window_counts" "window_counts" (defArgs s_window_counts) (defBody s_window_counts) (defScope s_window_counts) .none kV18 dc18 pm18 an18 cd18 ct18), sl18⟩) (c18 : PySem.W.codeIn K cd18 "window_counts" = true) (k18 : PySem.W.keepIn K (.ref a18) = true)
  (a19_ : PySem.W.nsIn K mainGlobals "changes" = some (some (.ref a19))) (l19 : K.lookup a19 = some ⟨oc19, od19, .func (PySem.W.fnOf "changes" "changes" (defArgs s_changes) (defBody s_changes) (defScope s_changes) .none kV19 dc19 pm19 an19 cd19 ct19), sl19⟩) (c19 : PySem.W.codeIn K cd19 "changes" = true) (k19 : PySem.W.keepIn K (.ref a19) = true)
  (a20_ : PySem.W.nsIn K mainGlobals "rises" = some (some (.ref a20))) (l20 : K.lookup a20 = some ⟨oc20, od20, .func (PySem.W.fnOf "rises" "rises" (defArgs s_rises) (defBody s_rises) (defScope s_rises) .none kV20 dc20 pm20 an20 cd20 ct20), sl20⟩) (c20 : PySem.W.codeIn K cd20 "rises" = true) (k20 : PySem.W.keepIn K (.ref a20) = true)
  (a21_ : PySem.W.nsIn K mainGlobals "count_within" = some (some (.ref a21))) (l21 : K.lookup a21 = some ⟨oc21, od21, .func (PySem.W.fnOf "count_within" "count_within" (defArgs s_count_within) (defBody s_count_within) (defScope s_count_within) .none kV21 dc21 pm21 an21 cd21 ct21), sl21⟩) (c21 : PySem.W.codeIn K cd21 "count_within" = true) (k21 : PySem.W.keepIn K (.ref a21) = true)
  (a22_ : PySem.W.nsIn K mainGlobals "changes_between" = some (some (.ref a22))) (l22 : K.lookup a22 = some ⟨oc22, od22, .func (PySem.W.fnOf "changes_between" "changes_between" (defArgs s_changes_between) (defBody s_changes_between) (defScope s_changes_between) .none kV22 dc22 pm22 an22 cd22 ct22), sl22⟩) (c22 : PySem.W.codeIn K cd22 "changes_between" = true) (k22 : PySem.W.keepIn K (.ref a22) = true)
  (a23_ : PySem.W.nsIn K mainGlobals "all_high" = some (some (.ref a23))) (l23 : K.lookup a23 = some ⟨oc23, od23, .func (PySem.W.fnOf "all_high" "all_high" (defArgs s_all_high) (defBody s_all_high) (defScope s_all_high) .none kV23 dc23 pm23 an23 cd23 ct23), sl23⟩) (c23 : PySem.W.codeIn K cd23 "all_high" = true) (k23 : PySem.W.keepIn K (.ref a23) = true)
  (a24_ : PySem.W.nsIn K mainGlobals "law" = some (some (.ref a24))) (l24 : K.lookup a24 = some ⟨oc24, od24, .func (PySem.W.fnOf "law" "law" (defArgs s_law) (defBody s_law) (defScope s_law) .none kV24 dc24 pm24 an24 cd24 ct24), sl24⟩) (c24 : PySem.W.codeIn K cd24 "law" = true) (k24 : PySem.W.keepIn K (.ref a24) = true)
  (z_len : PySem.W.nsIn K mainGlobals "len" = some none)
  (z_range : PySem.W.nsIn K mainGlobals "range" = some none)
  (z_max : PySem.W.nsIn K mainGlobals "max" = some none)
  (z_all : PySem.W.nsIn K mainGlobals "all" = some none)
  (z_list : PySem.W.nsIn K mainGlobals "list" = some none)
  (z_int : PySem.W.nsIn K mainGlobals "int" = some none)
  (z_str : PySem.W.nsIn K mainGlobals "str" = some none)
  (z_zip : PySem.W.nsIn K mainGlobals "zip" = some none)
  (z_enumerate : PySem.W.nsIn K mainGlobals "enumerate" = some none)
  (z_isinstance : PySem.W.nsIn K mainGlobals "isinstance" = some none)
  (z_set : PySem.W.nsIn K mainGlobals "set" = some none)
  (z_sorted : PySem.W.nsIn K mainGlobals "sorted" = some none)
  (z_sum : PySem.W.nsIn K mainGlobals "sum" = some none)
  (g_NoWave : PySem.W.nsIn K mainGlobals "NoWave" = some (some (.ref cNoWave)))
  (g_TooLong : PySem.W.nsIn K mainGlobals "TooLong" = some (some (.ref cTooLong)))
  (g_Unlike : PySem.W.nsIn K mainGlobals "Unlike" = some (some (.ref cUnlike)))
  (g_MOST_TICKS : PySem.W.nsIn K mainGlobals "MOST_TICKS" = some (some (.int 12 t_MOST_TICKS)))
  (g_MOST_WAVES : PySem.W.nsIn K mainGlobals "MOST_WAVES" = some (some (.int 6 t_MOST_WAVES)))
  (x_NoWave : excIn K cNoWave veMro "ValueError.__new__" = true)
  (x_TooLong : excIn K cTooLong veMro "ValueError.__new__" = true)
  (x_Unlike : excIn K cUnlike veMro "ValueError.__new__" = true)
  (tb : tabIn K "law" = some (cT, PT)) :
  ∃ fd : FuncData, (∀ (s : Shared) (v : Value), BindsTo s fd ⟨[v], []⟩ [("_law_script", v)]) ∧ ∀ base : Heap, K.In base → base.Ns mainGlobals mg → (∀ t ∈ [(cT, PT, qLaw)], LamB mg base t.1 t.2.1) → FnOk l.prog w K mg base (CX1 l.prog w) 8 fa fd ["_law_script"] (spLawT K [(cT, PT, qLaw)]) := by
 have T : Tx K mg cNoWave cTooLong cUnlike := {
  len := PySem.W.mg_none_of X G z_len
  range := PySem.W.mg_none_of X G z_range
  max := PySem.W.mg_none_of X G z_max
  all := PySem.W.mg_none_of X G z_all
  list := PySem.W.mg_none_of X G z_list
  int := PySem.W.mg_none_of X G z_int
  str := PySem.W.mg_none_of X G z_str
  zip := PySem.W.mg_none_of X G z_zip
  enumerate := PySem.W.mg_none_of X G z_enumerate
  isinstance := PySem.W.mg_none_of X G z_isinstance
  set := PySem.W.mg_none_of X G z_set
  sorted := PySem.W.mg_none_of X G z_sorted
  sum := PySem.W.mg_none_of X G z_sum
  NoWave := PySem.W.mg_of X G g_NoWave
  TooLong := PySem.W.mg_of X G g_TooLong
  Unlike := PySem.W.mg_of X G g_Unlike
  MOST_TICKS := ⟨t_MOST_TICKS, PySem.W.mg_of X G g_MOST_TICKS⟩
  MOST_WAVES := ⟨t_MOST_WAVES, PySem.W.mg_of X G g_MOST_WAVES⟩
  f__law_cell := ⟨a0, _, fun_mk (st := s_law_cell) l0 c0 k0, PySem.W.mg_of X G a0_, (fun_mk (st := s_law_cell) l0 c0 k0).binds (ps := ["_law_script", "_law_k"]) fun _ _ _ _ _ _ us hl => match us, hl with | [_, _], _ => rfl⟩
  f__law_pick := ⟨a1, _, fun_mk (st := s_law_pick) l1 c1 k1, PySem.W.mg_of X G a1_, (fun_mk (st := s_law_pick) l1 c1 k1).binds (ps := ["_law_script", "_law_k", "_law_many"]) fun _ _ _ _ _ _ us hl => match us, hl with | [_, _, _], _ => rfl⟩
  f__law_wave := ⟨a2, _, fun_mk (st := s_law_wave) l2 c2 k2, PySem.W.mg_of X G a2_, (fun_mk (st := s_law_wave) l2 c2 k2).binds (ps := ["_law_script", "_law_at", "_law_many", "_law_signs"]) fun _ _ _ _ _ _ us hl => match us, hl with | [_, _, _, _], _ => rfl⟩
  f__law_stays := ⟨a3, _, fun_mk (st := s_law_stays) l3 c3 k3, PySem.W.mg_of X G a3_, (fun_mk (st := s_law_stays) l3 c3 k3).binds (ps := ["_law_deed"]) fun _ _ _ _ _ _ us hl => match us, hl with | [_], _ => rfl⟩
  f_value_at := ⟨a4, _, fun_mk (st := s_value_at) l4 c4 k4, PySem.W.mg_of X G a4_, (fun_mk (st := s_value_at) l4 c4 k4).binds (ps := ["waves", "tick"]) fun _ _ _ _ _ _ us hl => match us, hl with | [_, _], _ => rfl⟩
  f_of_one_length := ⟨a5, _, fun_mk (st := s_of_one_length) l5 c5 k5, PySem.W.mg_of X G a5_, (fun_mk (st := s_of_one_length) l5 c5 k5).binds (ps := ["waves"]) fun _ _ _ _ _ _ us hl => match us, hl with | [_], _ => rfl⟩
  f_refuse_unlike := ⟨a6, _, fun_mk (st := s_refuse_unlike) l6 c6 k6, PySem.W.mg_of X G a6_, (fun_mk (st := s_refuse_unlike) l6 c6 k6).binds (ps := ["waves"]) fun _ _ _ _ _ _ us hl => match us, hl with | [_], _ => rfl⟩
  f_common_length := ⟨a7, _, fun_mk (st := s_common_length) l7 c7 k7, PySem.W.mg_of X G a7_, (fun_mk (st := s_common_length) l7 c7 k7).binds (ps := ["waves"]) fun _ _ _ _ _ _ us hl => match us, hl with | [_], _ => rfl⟩
  f_values_of := ⟨a8, _, fun_mk (st := s_values_of) l8 c8 k8, PySem.W.mg_of X G a8_, (fun_mk (st := s_values_of) l8 c8 k8).binds (ps := ["waves"]) fun _ _ _ _ _ _ us hl => match us, hl with | [_], _ => rfl⟩
  f_value_bounds := ⟨a9, _, fun_mk (st := s_value_bounds) l9 c9 k9, PySem.W.mg_of X G a9_, (fun_mk (st := s_value_bounds) l9 c9 k9).binds (ps := ["waves"]) fun _ _ _ _ _ _ us hl => match us, hl with | [_], _ => rfl⟩
  f_is_change := ⟨a10, _, fun_mk (st := s_is_change) l10 c10 k10, PySem.W.mg_of X G a10_, (fun_mk (st := s_is_change) l10 c10 k10).binds (ps := ["ahead", "number"]) fun _ _ _ _ _ _ us hl => match us, hl with | [_, _], _ => rfl⟩
  f_value_changes := ⟨a11, _, fun_mk (st := s_value_changes) l11 c11 k11, PySem.W.mg_of X G a11_, (fun_mk (st := s_value_changes) l11 c11 k11).binds (ps := ["waves"]) fun _ _ _ _ _ _ us hl => match us, hl with | [_], _ => rfl⟩
  f_refuse_too_long := ⟨a12, _, fun_mk (st := s_refuse_too_long) l12 c12 k12, PySem.W.mg_of X G a12_, (fun_mk (st := s_refuse_too_long) l12 c12 k12).binds (ps := ["length"]) fun _ _ _ _ _ _ us hl => match us, hl with | [_], _ => rfl⟩
  f_digit_at := ⟨a13, _, fun_mk (st := s_digit_at) l13 c13 k13, PySem.W.mg_of X G a13_, (fun_mk (st := s_digit_at) l13 c13 k13).binds (ps := ["number", "place"]) fun _ _ _ _ _ _ us hl => match us, hl with | [_, _], _ => rfl⟩
  f_digit_wave := ⟨a14, _, fun_mk (st := s_digit_wave) l14 c14 k14, PySem.W.mg_of X G a14_, (fun_mk (st := s_digit_wave) l14 c14 k14).binds (ps := ["numbers", "place"]) fun _ _ _ _ _ _ us hl => match us, hl with | [_, _], _ => rfl⟩
  f_can_be_made := ⟨a15, _, fun_mk (st := s_can_be_made) l15 c15 k15, PySem.W.mg_of X G a15_, (fun_mk (st := s_can_be_made) l15 c15 k15).binds (ps := ["number", "many"]) fun _ _ _ _ _ _ us hl => match us, hl with | [_, _], _ => rfl⟩
  f_of_values := ⟨a16, _, fun_mk (st := s_of_values) l16 c16 k16, PySem.W.mg_of X G a16_, (fun_mk (st := s_of_values) l16 c16 k16).binds (ps := ["numbers", "many"]) fun _ _ _ _ _ _ us hl => match us, hl with | [_, _], _ => rfl⟩
  f_windows := ⟨a17, _, fun_mk (st := s_windows) l17 c17 k17, PySem.W.mg_of X G a17_, (fun_mk (st := s_windows) l17 c17 k17).binds (ps := ["wave", "many"]) fun _ _ _ _ _ _ us hl => match us, hl with | [_, _], _ => rfl⟩
  f_window_counts := ⟨a18, _, fun_mk (st := s_window_counts) l18 c18 k18, PySem.W.mg_of X G a18_, (fun_mk (st := s_window_counts) l18 c18 k18).binds (ps := ["wave", "many"]) fun _ _ _ _ _ _ us hl => match us, hl with | [_, _], _ => rfl⟩
  f_changes := ⟨a19, _, fun_mk (st := s_changes) l19 c19 k19, PySem.W.mg_of X G a19_, (fun_mk (st := s_changes) l19 c19 k19).binds (ps := ["wave"]) fun _ _ _ _ _ _ us hl => match us, hl with | [_], _ => rfl⟩
  f_rises := ⟨a20, _, fun_mk (st := s_rises) l20 c20 k20, PySem.W.mg_of X G a20_, (fun_mk (st := s_rises) l20 c20 k20).binds (ps := ["wave"]) fun _ _ _ _ _ _ us hl => match us, hl with | [_], _ => rfl⟩
  f_count_within := ⟨a21, _, fun_mk (st := s_count_within) l21 c21 k21, PySem.W.mg_of X G a21_, (fun_mk (st := s_count_within) l21 c21 k21).binds (ps := ["ticks", "start", "end"]) fun _ _ _ _ _ _ us hl => match us, hl with | [_, _, _], _ => rfl⟩
  f_changes_between := ⟨a22, _, fun_mk (st := s_changes_between) l22 c22 k22, PySem.W.mg_of X G a22_, (fun_mk (st := s_changes_between) l22 c22 k22).binds (ps := ["wave", "beat"]) fun _ _ _ _ _ _ us hl => match us, hl with | [_, _], _ => rfl⟩
  f_all_high := ⟨a23, _, fun_mk (st := s_all_high) l23 c23 k23, PySem.W.mg_of X G a23_, (fun_mk (st := s_all_high) l23 c23 k23).binds (ps := ["waves"]) fun _ _ _ _ _ _ us hl => match us, hl with | [_], _ => rfl⟩
  f_law := ⟨a24, _, fun_mk (st := s_law) l24 c24 k24, PySem.W.mg_of X G a24_, (fun_mk (st := s_law) l24 c24 k24).binds (ps := ["_law_script"]) fun _ _ _ _ _ _ us hl => match us, hl with | [_], _ => rfl⟩
  x_NoWave := x_NoWave
  x_TooLong := x_TooLong
  x_Unlike := x_Unlike
 }
 refine ⟨PySem.W.fnOf "law" "law" (defArgs s_law) (defBody s_law) (defScope s_law) .none kV24 dc24 pm24 an24 cd24 ct24, fun s v => .of_eq rfl, fun base _ _ hLB => ?_⟩
 have e := hfa.symm.trans (PySem.W.mg_of X G a24_)
 cases e
 exact ok_law (P := l.prog) (w := w) (base := base) hG T (fun_mk (st := s_law) l24 c24 k24) (law_code X G tb (PySem.W.mg_of X G a24_) (X _ _ l24) rfl) (hLB _ List.mem_cons_self)
theorem walk {l : PySem.W.OpenLaw} {q : Program} {loose : List Str} {XP : (Str → Option Value) → Heap → Prop} {YP : World → Heap → Prop} {d : DefRec} {K : Params → PySem.W.Frag} {cT PT : Addr} (hn : l.most = some 63) (hdf : d.params.defaults = [])
  (hY : ∀ (w : World) (h : Heap), YP w h → (K w.params).In h) (hKt : ∀ w : World, noTabs (K w.params) = true)
  (hT : ∀ (w : World) (lz : List Str) (mean : ExcName → Option Value) (mg mb : Str → Option Value) (h : Heap), (K w.params).In h → Top q lz mean mg mb h → CodeHd h cT PT ∧ h.get? PT = some (tabObj #[]))
  (F : ∀ (w : World) (mg : Str → Option Value) (fa : Addr) (h : Heap), (K w.params).In h → h.Ns mainGlobals mg → mg d.name = some (.ref fa) →
   ∃ fd : FuncData, (∀ (s : Shared) (u : Value), BindsTo s fd ⟨[u], []⟩ [("_law_script", u)]) ∧ ∀ base : Heap, (K w.params).In base → base.Ns mainGlobals mg → (∀ t ∈ [(cT, PT, qLaw)], LamB mg base t.1 t.2.1) → FnOk l.prog w (K w.params) mg base (CX1 l.prog w) 8 fa fd ["_law_script"] (spLawT (K w.params) [(cT, PT, qLaw)])) :
  PySem.W.WalkO q loose XP YP l.row.toRowW d [] (fun f vs => PySem.call f vs) :=
 L2.walk_ofT (n := 63) (k := 8) (x := "_law_script") (tabs := [(cT, PT, qLaw)]) (CX := fun w => CX1 l.prog w) (sp := fun w => spLawT (K w.params) [(cT, PT, qLaw)]) hn (by decide) hdf ⟨rfl, by decide, by decide, rfl⟩ hY (List.pairwise_singleton _ _) hKt (fun w lz mean mg mb h KX T => List.forall_mem_cons.mpr ⟨hT w lz mean mg mb h KX T, fun _ h => nomatch h⟩) F (fun _ _ a ns hl hTb hS => ⟨hTb, a, ns, rfl, ⟨hS, hl⟩, fun _ => rfl⟩) fun _ _ _ _ _ z => by
  obtain ⟨ea, C, H', B, a0, _, _, _, _, _, _, _, _, _, hE⟩ := z
  exact hE
end K96
open PySem PySem.W PyProof.Rows
local macro_rules
 | `(tactic| exists kk_) => `(tactic| first | k_is | kit_is | kts_exm | k_exc)
set_option maxRecDepth 100000 in
set_option maxHeartbeats 0 in
theorem PySem.Challenge.cw_tickrows_k96_whole_told_lists_too_holds : PySem.Challenge.rw_tickrows_k96_whole_told_lists_too.Holds := by
 w_on; o_law; k_head; (case hw => w_witness2)
 k_fill
 refine K96.walk (l := PySem.Challenge.rw_tickrows_k96_whole_told_lists_too) (cT := 205) (PT := 203) rfl rfl (fun w h Y => PySem.W.km_in_of Y) (fun w => by kernel_rfl) (fun w lz mean mg mb h KX T => tab_of (x := "law") T KX rfl (by kernel_rfl)) ?F
 case F =>
  intro w mg fa h KX G hmg
  refine' K96.all_mk K96.law_true KX G hmg ?a0_ ?l0 ?c0 ?k0 ?a1_ ?l1 ?c1 ?k1 ?a2_ ?l2 ?c2 ?k2 ?a3_ ?l3 ?c3 ?k3 ?a4_ ?l4 ?c4 ?k4 ?a5_ ?l5 ?c5 ?k5 ?a6_ ?l6 ?c6 ?k6 ?a7_ ?l7 ?c7 ?k7 ?a8_ ?l8 ?c8 ?k8 ?a9_ ?l9 ?c9 ?k9 ?a10_ ?l10 ?c10 ?k10 ?a11_ ?l11 ?c11 ?k11 ?a12_ ?l12 ?c12 ?k12 ?a13_ ?l13 ?c13 ?k13 ?a14_ ?l14 ?c14 ?k14 ?a15_ ?l15 ?c15 ?k15 ?a16_ ?l16 ?c16 ?k16 ?a17_ ?l17 ?c17 ?k17 ?a18_ ?l18 ?c18 ?k18 ?a19_ ?l19 ?c19 ?k19 ?a20_ ?l20 ?c20 ?k20 ?a21_ ?l21 ?c21 ?k21 ?a22_ ?l22 ?c22 ?k22 ?a23_ ?l23 ?c23 ?k23 ?a24_ ?l24 ?c24 ?k24 ?z_len ?z_range ?z_max ?z_all ?z_list ?z_int ?z_str ?z_zip ?z_enumerate ?z_isinstance ?z_set ?z_sorted ?z_sum ?g_NoWave ?g_TooLong ?g_Unlike ?g_MOST_TICKS ?g_MOST_WAVES ?x_NoWave ?x_TooLong ?x_Unlike ?tb
  (case a0_ => exists kk_)
  (case l0 => exists kk_)
  (case c0 => exists kk_)
  (case k0 => exists kk_)
  (case a1_ => exists kk_)
  (case l1 => exists kk_)
  (case c1 => exists kk_)
  (case k1 => exists kk_)
  (case a2_ => exists kk_)
  (case l2 => exists kk_)
  (case c2 => exists kk_)
  (case k2 => exists kk_)
  (case a3_ => exists kk_)
  (case l3 => exists kk_)
  (case c3 => exists kk_)
  (case k3 => exists kk_)
  (case a4_ => exists kk_)
  (case l4 => exists kk_)
  (case c4 => exists kk_)
  (case k4 => exists kk_)
  (case a5_ => exists kk_)
  (case l5 => exists kk_)
  (case c5 => exists kk_)
  (case k5 => exists kk_)
  (case a6_ => exists kk_)
  (case l6 => exists kk_)
  (case c6 => exists kk_)
  (case k6 => exists kk_)
  (case a7_ => exists kk_)
  (case l7 => exists kk_)
  (case c7 => exists kk_)
  (case k7 => exists kk_)
  (case a8_ => exists kk_)
  (case l8 => exists kk_)
  (case c8 => exists kk_)
  (case k8 => exists kk_)
  (case a9_ => exists kk_)
  (case l9 => exists kk_)
  (case c9 => exists kk_)
  (case k9 => exists kk_)
  (case a10_ => exists kk_)
  (case l10 => exists kk_)
  (case c10 => exists kk_)
  (case k10 => exists kk_)
  (case a11_ => exists kk_)
  (case l11 => exists kk_)
  (case c11 => exists kk_)
  (case k11 => exists kk_)
  (case a12_ => exists kk_)
  (case l12 => exists kk_)
  (case c12 => exists kk_)
  (case k12 => exists kk_)
  (case a13_ => exists kk_)
  (case l13 => exists kk_)
  (case c13 => exists kk_)
  (case k13 => exists kk_)
  (case a14_ => exists kk_)
  (case l14 => exists kk_)
  (case c14 => exists kk_)
  (case k14 => exists kk_)
  (case a15_ => exists kk_)
  (case l15 => exists kk_)
  (case c15 => exists kk_)
  (case k15 => exists kk_)
  (case a16_ => exists kk_)
  (case l16 => exists kk_)
  (case c16 => exists kk_)
  (case k16 => exists kk_)
  (case a17_ => exists kk_)
  (case l17 => exists kk_)
  (case c17 => exists kk_)
  (case k17 => exists kk_)
  (case a18_ => exists kk_)
  (case l18 => exists kk_)
  (case c18 => exists kk_)
  (case k18 => exists kk_)
  (case a19_ => exists kk_)
  (case l19 => exists kk_)
  (case c19 => exists kk_)
  (case k19 => exists kk_)
  (case a20_ => exists kk_)
  (case l20 => exists kk_)
  (case c20 => exists kk_)
  (case k20 => exists kk_)
  (case a21_ => exists kk_)
  (case l21 => exists kk_)
  (case c21 => exists kk_)
  (case k21 => exists kk_)
  (case a22_ => exists kk_)
  (case l22 => exists kk_)
  (case c22 => exists kk_)
  (case k22 => exists kk_)
  (case a23_ => exists kk_)
  (case l23 => exists kk_)
  (case c23 => exists kk_)
  (case k23 => exists kk_)
  (case a24_ => exists kk_)
  (case l24 => exists kk_)
  (case c24 => exists kk_)
  (case k24 => exists kk_)
  (case z_len => exists kk_)
  (case z_range => exists kk_)
  (case z_max => exists kk_)
  (case z_all => exists kk_)
  (case z_list => exists kk_)
  (case z_int => exists kk_)
  (case z_str => exists kk_)
  (case z_zip => exists kk_)
  (case z_enumerate => exists kk_)
  (case z_isinstance => exists kk_)
  (case z_set => exists kk_)
  (case z_sorted => exists kk_)
  (case z_sum => exists kk_)
  (case g_NoWave => exists kk_)
  (case g_TooLong => exists kk_)
  (case g_Unlike => exists kk_)
  (case g_MOST_TICKS => exists kk_)
  (case g_MOST_WAVES => exists kk_)
  (case x_NoWave => exists kk_)
  (case x_TooLong => exists kk_)
  (case x_Unlike => exists kk_)
  (case tb => kernel_rfl)
