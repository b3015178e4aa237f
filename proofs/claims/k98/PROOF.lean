import PyProof.Rows.All
import Wide.All
import OpenK.AllK
import Wide.FinOn
import Lean
import PyProof.EqAt
import PyProof.EqKinds
import PyProof.TupleCall
import PyProof.ConsumeWalk
import PyProof.StrWalks
import PyProof.IsiPairs
import PyProof.IsiHeapPairs
import PyProof.NeKinds
import KE.KIsAll
import KE.KTryMore
import PyProof.FString
import PyProof.ExcBaseAll.ValueError
import PyProof.NsDelKeeps
import PyProof.ListStr
import PyProof.Rows.StrJoin2
import KE.RegKIsAll
import KE.RegKTryMore
import PyProof.StrOps2
import PyProof.ZipIter
import PyProof.Rows.FactsT2
import PyProof.WalksEnum
import PyProof.EnumMake
import PyProof.Draws
import KE.KUnpack
import PyProof.CallType
import PyProof.CollectIter
import PyProof.JoinWalk
import PyProof.Rows.StrJoinStr
import PyProof.DictRoads
import PyProof.DictKinds
import PyProof.DictStraight
import PyProof.DictDisplay
import PyProof.ReprRoads
import PyProof.ReprLen
import PyProof.SetRoads
import PyProof.Rows.SetFrom
import PyProof.MinMaxWalk
import PyProof.Rows.CallKwBuiltin
import KE.KMinKey
import PyProof.StrLawsChain
import PyProof.StrLawsTight
import PyProof.Rows.StrNews
import PyProof.Rows.StrSplitCount
import PyProof.DictCalls
import PyProof.SliceSyntax
import PyProof.SumWalk
import PyProof.ReprStr
import PyProof.StrLawsRepr
import KE.KLam
import PyProof.SetKind
import PyProof.CollectWalk
import PyProof.Rows.SortStr
import PySem.Challenge.RW_tickrows_k98_whole_windows_and_gates
set_option Elab.async false
set_option linter.all false
set_option maxRecDepth 100000
/-! Data without a heap, and what the program's pieces reckon with them. -/
namespace L2

inductive Dt where
  | non | bl (b : Bool) | int (i : Int) | str (l : List Nat) | tup (ds : List Dt) | lst (ds : List Dt)

mutual
/-- Python's own == -/
def eqD : Dt → Dt → Bool
  | .non, .non => true
  | .bl a, .bl b => a == b
  | .int a, .int b => a == b
  | .bl a, .int b => (if a then 1 else 0) == b
  | .int a, .bl b => a == (if b then 1 else 0)
  | .str a, .str b => a == b
  | .tup a, .tup b => eqDs a b
  | .lst a, .lst b => eqDs a b
  | _, _ => false
def eqDs : List Dt → List Dt → Bool
  | [], [] => true
  | a :: r, b :: t => eqD a b && eqDs r t
  | _, _ => false
end
mutual
def dep : Dt → Nat
  | .tup ds => deps ds + 1
  | .lst ds => deps ds + 1
  | _ => 0
def deps : List Dt → Nat
  | [] => 0
  | d :: ds => max (dep d) (deps ds)
end
mutual
/-- no text, list or tuple of more than 10000 -/
def sm : Dt → Prop
  | .str l => l.length ≤ 10000
  | .tup ds => ds.length ≤ 10000 ∧ sms ds
  | .lst ds => ds.length ≤ 10000 ∧ sms ds
  | _ => True
def sms : List Dt → Prop
  | [] => True
  | d :: ds => sm d ∧ sms ds
end
theorem sms_mem {d : Dt} : ∀ {ds : List Dt}, sms ds → d ∈ ds → sm d
  | e :: ds, h, hd => by
    simp only [sms] at h
    rcases List.mem_cons.mp hd with z | z
    · subst z; exact h.1
    · exact sms_mem h.2 z
theorem sms_of : ∀ {ds : List Dt}, (∀ d ∈ ds, sm d) → sms ds
  | [], _ => by simp only [sms]
  | d :: ds, h => by
    simp only [sms]
    exact ⟨h d List.mem_cons_self, sms_of fun e he => h e (List.mem_cons_of_mem _ he)⟩
theorem sms_append {a b : List Dt} (ha : sms a) (hb : sms b) : sms (a ++ b) := sms_of fun d hd => by
  rcases List.mem_append.mp hd with h | h
  · exact sms_mem ha h
  · exact sms_mem hb h

/-! ### what comes: a value, a refusal by its number, or nothing that is spoken of -/
inductive M (α : Type) where
  | ok (a : α) | ex (c : Nat) | bad
def M.bd {α β : Type} : M α → (α → M β) → M β
  | .ok a, k => k a
  | .ex c, _ => .ex c
  | .bad, _ => .bad
def M.calm {α : Type} : M α → M α
  | .ex _ => .bad
  | m => m
@[simp] theorem bd_ok {α β : Type} (a : α) (k : α → M β) : (M.ok a).bd k = k a := .trans rfl rfl
@[simp] theorem bd_ex {α β : Type} (c : Nat) (k : α → M β) : (M.ex c).bd k = .ex c := .trans rfl rfl
@[simp] theorem bd_bad {α β : Type} (k : α → M β) : (M.bad).bd k = .bad := .trans rfl rfl
@[simp] theorem calm_ok {α : Type} (a : α) : (M.ok a).calm = .ok a := .trans rfl rfl
@[simp] theorem calm_bad {α : Type} : (M.bad : M α).calm = .bad := .trans rfl rfl
theorem bd_if {α β : Type} (c : Prop) [Decidable c] (a b : M α) (k : α → M β) : (if c then a else b).bd k = if c then a.bd k else b.bd k := by split <;> rfl
/-- what a name holds: nothing that is known, a value, or a list that nothing else holds -/
inductive Bd where
  | no | val (d : Dt) | own (ds : List Dt)
abbrev Rho := List Bd
def gv : Option Bd → M Dt
  | some (.val d) => .ok d
  | _ => .bad
def getV (i : Nat) (ρ : Rho) : M Dt := gv ρ[i]?
def putV (i : Nat) (d : Dt) (ρ : Rho) : Rho := ρ.set i (.val d)
/-- the names of a comprehension's block -/
def vOnly : Option Bd → Bd
  | some (.val d) => .val d
  | _ => .no
def startR (k : Nat) (fr : List Nat) (ρ : Rho) : Rho := List.replicate k .no ++ fr.map fun j => vOnly ρ[j]?

/-! ### operations -/
def pC (d : Dt) : Rho → M Dt := fun _ => .ok d
def p2 (op : Dt → Dt → M Dt) (f g : Rho → M Dt) : Rho → M Dt := fun ρ => (f ρ).bd fun x => (g ρ).bd fun y => op x y
def p1 (op : Dt → M Dt) (f : Rho → M Dt) : Rho → M Dt := fun ρ => (f ρ).bd op
def szS (l : List Nat) : M Dt := if l.length ≤ 10000 then .ok (.str l) else .bad
def szL (l : List Dt) : M Dt := if l.length ≤ 10000 then .ok (.lst l) else .bad
def oAdd : Dt → Dt → M Dt
  | .int a, .int b => .ok (.int (a + b))
  | .str a, .str b => szS (a ++ b)
  | .lst a, .lst b => szL (a ++ b)
  | _, _ => .bad
def oSub : Dt → Dt → M Dt
  | .int a, .int b => .ok (.int (a - b))
  | _, _ => .bad
def smallI (a : Int) : Prop := -(2 ^ 64) < a ∧ a < 2 ^ 64
instance (a : Int) : Decidable (smallI a) := by unfold smallI; infer_instance
def oMul : Dt → Dt → M Dt
  | .int a, .int b => if smallI a ∨ smallI b then .ok (.int (a * b)) else .bad
  | .str a, .int n => if -1000 ≤ n ∧ n ≤ 1000 ∧ a.length ≤ 1000 then szS (List.replicate n.toNat a).flatten else .bad
  | _, _ => .bad
def oMod : Dt → Dt → M Dt
  | .int a, .int b => if 0 < b then .ok (.int (a % b)) else .bad
  | _, _ => .bad
def oDiv : Dt → Dt → M Dt
  | .int a, .int b => if 0 < b ∧ b < 1073741824 then .ok (.int (a / b)) else .bad
  | _, _ => .bad
def oPow : Dt → Dt → M Dt
  | .int a, .int b => if 0 ≤ b ∧ b ≤ 1000 ∧ a.natAbs < 2 ^ 64 then .ok (.int (a ^ b.toNat)) else .bad
  | _, _ => .bad
def oShr : Dt → Dt → M Dt
  | .int a, .int b => if 0 ≤ b then .ok (.int (a / 2 ^ b.toNat)) else .bad
  | _, _ => .bad
/-- a & 1 -/
def oAnd1 : Dt → M Dt
  | .int a => if 0 ≤ a then .ok (.int (a % 2)) else .bad
  | _ => .bad
def oNeg : Dt → M Dt
  | .int a => .ok (.int (-a))
  | _ => .bad
def oLt : Dt → Dt → M Dt
  | .int a, .int b => .ok (.bl (decide (a < b)))
  | _, _ => .bad
def oLe : Dt → Dt → M Dt
  | .int a, .int b => .ok (.bl (decide (a ≤ b)))
  | _, _ => .bad
def oGt : Dt → Dt → M Dt
  | .int a, .int b => .ok (.bl (decide (b < a)))
  | _, _ => .bad
def oGe : Dt → Dt → M Dt
  | .int a, .int b => .ok (.bl (decide (b ≤ a)))
  | _, _ => .bad
def oEq (a b : Dt) : M Dt := if dep a ≤ 50 then .ok (.bl (eqD a b)) else .bad
def oNe (a b : Dt) : M Dt := if dep a ≤ 50 then .ok (.bl (!eqD a b)) else .bad
def flatD : Dt → Bool
  | .non => true
  | .bl _ => true
  | .int _ => true
  | .str _ => true
  | _ => false
def oIn : Dt → Dt → M Dt
  | .str [c], .str l => .ok (.bl (decide (c ∈ l)))
  | a, .lst ds => if flatD a = true ∧ ds.all flatD = true then .ok (.bl (ds.any fun d => eqD d a)) else .bad
  | a, .tup ds => if flatD a = true ∧ ds.all flatD = true then .ok (.bl (ds.any fun d => eqD d a)) else .bad
  | _, _ => .bad
def oNot : Dt → M Dt
  | .bl b => .ok (.bl (!b))
  | _ => .bad
def oNotIn (a b : Dt) : M Dt := (oIn a b).bd oNot
def isNon : Dt → Bool
  | .non => true
  | _ => false
def oIs (a b : Dt) : M Dt := match b with
  | .non => .ok (.bl (isNon a))
  | .bl y => (match a with | .bl x => .ok (.bl (x == y)) | _ => .bad)
  | _ => .bad
def oIsNot (a b : Dt) : M Dt := (oIs a b).bd oNot
/-- the place that an index of any sign means -/
def ixZ (n : Nat) (i : Int) : Option Nat := if 0 ≤ i then (if i < n then some i.toNat else none) else if -(n : Int) ≤ i then some (i + n).toNat else none
def atZ {α : Type} (xs : List α) (i : Int) : Option α := (ixZ xs.length i).bind fun j => xs[j]?
def ixC : Option Nat → M Dt
  | some c => .ok (.str [c])
  | none => .bad
def ixD : Option Dt → M Dt
  | some d => .ok d
  | none => .bad
def oIx : Dt → Dt → M Dt
  | .str l, .int i => ixC (atZ l i)
  | .lst l, .int i => ixD (atZ l i)
  | .tup l, .int i => ixD (atZ l i)
  | _, _ => .bad
def sIz (n d : Nat) : Option Int → Nat
  | none => d
  | some i => if i < 0 then (i + n).toNat else min i.toNat n
def cutZ {α : Type} (l : List α) (lo hi : Option Int) : List α := (l.drop (sIz l.length 0 lo)).take (sIz l.length l.length hi - sIz l.length 0 lo)
def oCut (lo hi : Option Int) : Dt → M Dt
  | .str l => .ok (.str (cutZ l lo hi))
  | .lst l => .ok (.lst (cutZ l lo hi))
  | _ => .bad
def intM : Dt → M Int
  | .int i => .ok i
  | _ => .bad
/-- the bound of a slice -/
def pPart : Option (Rho → M Dt) → Rho → M (Option Int)
  | none, _ => .ok none
  | some f, ρ => (f ρ).bd fun d => (intM d).bd fun i => .ok (some i)
def pSlice (f : Rho → M Dt) (lo hi : Rho → M (Option Int)) : Rho → M Dt := fun ρ => (f ρ).bd fun d => (lo ρ).bd fun a => (hi ρ).bd fun b => oCut a b d
def truM : Dt → M Bool
  | .bl b => .ok b
  | _ => .bad
/-! tests -/
def tOf (f : Rho → M Dt) : Rho → M Bool := fun ρ => (f ρ).bd truM
def tNt (f : Rho → M Bool) : Rho → M Bool := fun ρ => (f ρ).bd fun b => .ok (!b)
def tAn (f g : Rho → M Bool) : Rho → M Bool := fun ρ => (f ρ).bd fun b => if b = true then g ρ else .ok false
def tOr' (f g : Rho → M Bool) : Rho → M Bool := fun ρ => (f ρ).bd fun b => if b = true then .ok true else g ρ
/-- and, or as values -/
def pAn (f g : Rho → M Dt) : Rho → M Dt := fun ρ => (f ρ).bd fun d => (truM d).bd fun b => if b = true then g ρ else .ok (.bl false)
def pOr (f g : Rho → M Dt) : Rho → M Dt := fun ρ => (f ρ).bd fun d => (truM d).bd fun b => if b = true then .ok (.bl true) else g ρ
def pIf (c : Rho → M Bool) (f g : Rho → M Dt) : Rho → M Dt := fun ρ => (c ρ).bd fun b => if b = true then f ρ else g ρ
/-- a op b op' c -/
def pChain (op op' : Dt → Dt → M Dt) (f g h : Rho → M Dt) : Rho → M Dt := fun ρ => (f ρ).bd fun x => (g ρ).bd fun y => (op x y).bd fun d => (truM d).bd fun b => if b = true then (h ρ).bd fun z => op' y z else .ok (.bl false)
/-! several values -/
def aNil : Rho → M (List Dt) := fun _ => .ok []
def aCons (f : Rho → M Dt) (g : Rho → M (List Dt)) : Rho → M (List Dt) := fun ρ => (f ρ).bd fun d => (g ρ).bd fun ds => .ok (d :: ds)
def pLst (f : Rho → M (List Dt)) : Rho → M Dt := fun ρ => (f ρ).bd fun ds => szL ds
def pTup (f : Rho → M (List Dt)) : Rho → M Dt := fun ρ => (f ρ).bd fun ds => if ds.length ≤ 10000 then .ok (.tup ds) else .bad
/-- [a, ..] * n -/
def repD (ds : List Dt) : Dt → M Dt
  | .int n => if -1000 ≤ n ∧ n ≤ 1000 ∧ ds.length * n.toNat ≤ 10000 then .ok (.lst (List.replicate n.toNat ds).flatten) else .bad
  | _ => .bad
def pRep (f : Rho → M (List Dt)) (g : Rho → M Dt) : Rho → M Dt := fun ρ => (f ρ).bd fun ds => if ds.length ≤ 10000 then (g ρ).bd (repD ds) else .bad
def pCall (F : List Dt → M Dt) (f : Rho → M (List Dt)) : Rho → M Dt := fun ρ => (f ρ).bd F
/-! builtins -/
def bLen : List Dt → M Dt
  | [.str l] => .ok (.int l.length)
  | [.lst l] => .ok (.int l.length)
  | [.tup l] => .ok (.int l.length)
  | _ => .bad
def bMin : List Dt → M Dt
  | [.int i, .int j] => .ok (.int (if j < i then j else i))
  | _ => .bad
def bMax : List Dt → M Dt
  | [.int i, .int j] => .ok (.int (if j > i then j else i))
  | _ => .bad
def bools : List Dt → Option (List Bool)
  | [] => some []
  | .bl b :: r => (bools r).map (b :: ·)
  | _ => none
def blM (k : List Bool → Bool) : Option (List Bool) → M Dt
  | some bs => .ok (.bl (k bs))
  | none => .bad
def bAll : List Dt → M Dt
  | [.lst l] => blM (fun bs => bs.all id) (bools l)
  | _ => .bad
def bAny : List Dt → M Dt
  | [.lst l] => blM (fun bs => bs.any id) (bools l)
  | _ => .bad
def sgD (l : List Nat) : List Dt := l.map fun c => .str [c]
def bList : List Dt → M Dt
  | [.lst l] => .ok (.lst l)
  | [.tup l] => .ok (.lst l)
  | [.str l] => .ok (.lst (sgD l))
  | _ => .bad
/-- int(x): an int, a truth, a text of one digit -/
def bInt : List Dt → M Dt
  | [.int i] => .ok (.int i)
  | [.bl b] => .ok (.int (if b then 1 else 0))
  | [.str [c]] => if 48 ≤ c ∧ c ≤ 57 then .ok (.int ((c : Int) - 48)) else .bad
  | _ => .bad
/-- str(x): one digit -/
def bStr : List Dt → M Dt
  | [.int i] => if 0 ≤ i ∧ i ≤ 9 then .ok (.str [48 + i.toNat]) else .bad
  | _ => .bad
def strsM : List Dt → Option (List (List Nat))
  | [] => some []
  | .str l :: r => (strsM r).map (l :: ·)
  | _ => none
/-- a method, by what it is asked of -/
abbrev Sel := Dt → Option (List Dt → M Dt)
def jnM : Option (List (List Nat)) → M Dt
  | some ls => szS ls.flatten
  | none => .bad
def joinM : List Dt → M Dt
  | [.lst ds] => jnM (strsM ds)
  | _ => .bad
def mJoin : Sel
  | .str [] => some joinM
  | _ => none
def cntS (l : List Nat) : List Dt → M Dt
  | [.str [c]] => .ok (.int (l.count c))
  | _ => .bad
def mCountS : Sel
  | .str l => some (cntS l)
  | _ => none
def mtk : Option (List Dt → M Dt) → M (List Dt) → M Dt
  | some k, m => m.bd k
  | none, _ => .bad
def pMeth (m : Sel) (f : Rho → M Dt) (g : Rho → M (List Dt)) : Rho → M Dt := fun ρ => (f ρ).bd fun d => mtk (m d) (g ρ)
/-! ### what is walked -/
abbrev IM := Rho → M (List Dt)
def seqM : Dt → M (List Dt)
  | .lst l => .ok l
  | .tup l => .ok l
  | .str l => .ok (sgD l)
  | _ => .bad
def iOf (f : Rho → M Dt) : IM := fun ρ => (f ρ).bd seqM
def rngD (lo hi : Int) : List Dt := (List.range (hi - lo).toNat).map fun (k : Nat) => .int (lo + (k : Nat))
def rng1M : List Dt → M (List Dt)
  | [.int n] => if -1000000 ≤ n ∧ n ≤ 10000 then .ok (rngD 0 n) else .bad
  | _ => .bad
def rng2M : List Dt → M (List Dt)
  | [.int a, .int b] => if -1000000 ≤ a ∧ a ≤ 1000000 ∧ -1000000 ≤ b ∧ b ≤ 1000000 ∧ b - a ≤ 10000 then .ok (rngD a b) else .bad
  | _ => .bad
def zipD (a b : List Dt) : List Dt := (a.zip b).map fun p => .tup [p.1, p.2]
def zip2M : List Dt → M (List Dt)
  | [x, y] => (seqM x).bd fun a => (seqM y).bd fun b => .ok (zipD a b)
  | _ => .bad
def zip3D (a b c : List Dt) : List Dt := (a.zip (b.zip c)).map fun p => .tup [p.1, p.2.1, p.2.2]
def zip3M : List Dt → M (List Dt)
  | [x, y, z] => (seqM x).bd fun a => (seqM y).bd fun b => (seqM z).bd fun c => .ok (zip3D a b c)
  | _ => .bad
def enumD (a : List Dt) : List Dt := (List.range a.length).zipWith (fun (i : Nat) d => .tup [.int (i : Nat), d]) a
def enumM : List Dt → M (List Dt)
  | [x] => (seqM x).bd fun a => .ok (enumD a)
  | _ => .bad
def revM : List Dt → M (List Dt)
  | [x] => (seqM x).bd fun a => .ok a.reverse
  | _ => .bad
def iBy (k : List Dt → M (List Dt)) (f : Rho → M (List Dt)) : IM := fun ρ => (f ρ).bd k
/-! ### where a value is put -/
abbrev GM := Dt → Rho → M Rho
def gNm (i : Nat) : GM := fun d ρ => .ok (putV i d ρ)
def gZn : List Dt → Rho → M Rho
  | [], ρ => .ok ρ
  | _, _ => .bad
def gZc (g : GM) (gs : List Dt → Rho → M Rho) : List Dt → Rho → M Rho
  | d :: ds, ρ => (g d ρ).bd fun ρ1 => gs ds ρ1
  | _, _ => .bad
def gTp (n : Nat) (gs : List Dt → Rho → M Rho) : GM
  | .tup ds, ρ => if ds.length = n then gs ds ρ else .bad
  | .lst ds, ρ => if ds.length = n then gs ds ρ else .bad
  | _, _ => .bad
/-! ### comprehensions -/
def comM (g : GM) (tc : Rho → M Bool) (te : Rho → M Dt) (ρ0 : Rho) : List Dt → M (List Dt)
  | [] => .ok []
  | d :: ds => (g d ρ0).bd fun ρ1 => (tc ρ1).bd fun b => if b = true then (te ρ1).bd fun x => (comM g tc te ρ0 ds).bd fun xs => .ok (x :: xs) else comM g tc te ρ0 ds
def tYs : Rho → M Bool := fun _ => .ok true
def pComp (k : Nat) (fr : List Nat) (it : IM) (g : GM) (tc : Rho → M Bool) (te : Rho → M Dt) : Rho → M Dt := fun ρ => (it ρ).bd fun ds => (comM g tc te (startR k fr ρ) ds).calm.bd szL
/-! ### statements -/
inductive Fl where
  | nx (ρ : Rho) | rt (d : Dt) | bk (ρ : Rho) | ct (ρ : Rho)
abbrev SM := Rho → M Fl
def sSkip : SM := fun ρ => .ok (.nx ρ)
def sqk (t : SM) : Fl → M Fl
  | .nx ρ => t ρ
  | f => .ok f
def sSeq (s t : SM) : SM := fun ρ => (s ρ).bd (sqk t)
def sRet (f : Rho → M Dt) : SM := fun ρ => (f ρ).bd fun d => .ok (.rt d)
def sDrop (f : Rho → M Dt) : SM := fun ρ => (f ρ).bd fun _ => .ok (.nx ρ)
def sAsg (f : Rho → M Dt) (g : GM) : SM := fun ρ => (f ρ).bd fun d => (g d ρ).calm.bd fun ρ' => .ok (.nx ρ')
def augD (i : Nat) (ρ : Rho) (n : Int) : Dt → M Fl
  | .int k => .ok (.nx (putV i (.int (n + k)) ρ))
  | _ => .bad
def augK (i : Nat) (f : Rho → M Dt) (ρ : Rho) : Option Bd → M Fl
  | some (.val (.int n)) => (f ρ).bd (augD i ρ n)
  | _ => .bad
def sAug (i : Nat) (f : Rho → M Dt) : SM := fun ρ => augK i f ρ ρ[i]?
def sIf (c : Rho → M Bool) (s t : SM) : SM := fun ρ => (c ρ).bd fun b => if b = true then s ρ else t ρ
def fork (k : SM) : Fl → M Fl
  | .nx ρ => k ρ
  | .ct ρ => k ρ
  | .bk ρ => .ok (.nx ρ)
  | .rt d => .ok (.rt d)
def forM' (g : GM) (b : SM) : List Dt → SM
  | [], ρ => .ok (.nx ρ)
  | d :: ds, ρ => (g d ρ).calm.bd fun ρ1 => (b ρ1).calm.bd (fork (forM' g b ds))
def sFor (it : IM) (g : GM) (b : SM) : SM := fun ρ => (it ρ).bd fun ds => forM' g b ds ρ
/-- a fresh list gets its name -/
def sOwn (i : Nat) (f : Rho → M (List Dt)) : SM := fun ρ => (f ρ).bd fun ds => if ds.length ≤ 10000 then .ok (.nx (ρ.set i (.own ds))) else .bad
def relB (i : Nat) (ρ : Rho) : Option Bd → Rho
  | some (.own ds) => ρ.set i (.val (.lst ds))
  | _ => ρ
def rel (i : Nat) (ρ : Rho) : Rho := relB i ρ ρ[i]?
/-- from here on it is a value as any other -/
def sRel (i : Nat) (s : SM) : SM := fun ρ => s (rel i ρ)
def appK (i : Nat) (f : Rho → M Dt) (ρ : Rho) : Option Bd → M Fl
  | some (.own ds) => (f ρ).bd fun d => if ds.length < 10000 then .ok (.nx (ρ.set i (.own (ds ++ [d])))) else .bad
  | _ => .bad
def sAppend (i : Nat) (f : Rho → M Dt) : SM := fun ρ => appK i f ρ ρ[i]?
def sForC (it : IM) (g : GM) (b : SM) : SM := fun ρ => (sFor it g b ρ).calm
def parK (i j : Nat) (ρ : Rho) : List Dt → M Fl
  | [d, e] => .ok (.nx (putV j e (putV i d ρ)))
  | _ => .bad
def sPar (i j : Nat) (f : Rho → M (List Dt)) : SM := fun ρ => (f ρ).bd (parK i j ρ)
def uOf (f : Rho → M Dt) : Rho → M Unit := fun ρ => (f ρ).bd fun _ => .ok ()
def uIn : Dt → M Unit
  | .int i => if -2 ≤ i ∧ i ≤ 20 then .ok () else .bad
  | _ => .bad
def uInt (f : Rho → M Dt) : Rho → M Unit := fun ρ => (f ρ).bd uIn
def sRz (c : Nat) (f : Rho → M Unit) : SM := fun ρ => (f ρ).bd fun _ => .ex c
/-- clash, no name, no text, no tick, no wave, too long, unlike -/
def wordZ (j : Nat) : List Nat := [[99, 108, 97, 115, 104], [110, 111, 32, 110, 97, 109, 101], [110, 111, 32, 116, 101, 120, 116], [110, 111, 32, 116, 105, 99, 107], [110, 111, 32, 119, 97, 118, 101], [116, 111, 111, 32, 108, 111, 110, 103], [117, 110, 108, 105, 107, 101]].getD j []
/-- try: the body; a refusal's word (of those in cs), or what the name i holds -/
def tryK (cs : List Nat) (i : Nat) : M Fl → M Fl
  | .ok (.nx ρ) => (getV i ρ).bd fun d => .ok (.rt d)
  | .ex c => if c ∈ cs then .ok (.rt (.str (wordZ c))) else .bad
  | _ => .bad
def sTry (cs : List Nat) (i : Nat) (b : SM) : SM := fun ρ => tryK cs i (b ρ)
/-- d[k], of written keys -/
def dgetM : List (List Nat × Dt) → Dt → M Dt
  | [], _ => .bad
  | (k, v) :: r, d => match d with | .str l => if l = k then .ok v else dgetM r d | _ => .bad
def pDget (ks : List (List Nat)) (f : Rho → M (List Dt)) (g : Rho → M Dt) : Rho → M Dt := fun ρ => (f ρ).bd fun vs => (g ρ).bd fun d => dgetM (ks.zip vs) d
/-- ''.join(reversed(x)) -/
def oRevJ : Dt → M Dt
  | .str l => .ok (.str l.reverse)
  | _ => .bad
/-- [f, g, ..][i](..) -/
def pkF (Fs : List (List Dt → M Dt)) : Dt → Option (List Dt → M Dt)
  | .int k => if 0 ≤ k then Fs[k.toNat]? else none
  | _ => none
def pPick (Fs : List (List Dt → M Dt)) (i : Rho → M Dt) (f : Rho → M (List Dt)) : Rho → M Dt := fun ρ => (i ρ).bd fun d => mtk (pkF Fs d) (f ρ)
/-- a def: its parameters' values, then as many names more -/
def flV : Fl → M Dt
  | .nx _ => .ok .non
  | .rt d => .ok d
  | _ => .bad
def fnM (np n : Nat) (b : SM) : List Dt → M Dt := fun ds => if ds.length = np then (b (ds.map Bd.val ++ List.replicate n .no)).bd flV else .bad
end L2

set_option Elab.async false
set_option linter.all false
namespace L2
def lstM : Dt → M (List Dt)
  | .lst l => .ok l
  | _ => .bad
def zipLM : List Dt → M (List Dt)
  | [x, y] => (lstM x).bd fun a => (lstM y).bd fun b => .ok (zipD a b)
  | _ => .bad
/-- a list, a text -/
def sqM : Dt → M (List Dt)
  | .lst l => .ok l
  | .str l => .ok (sgD l)
  | _ => .bad
def zip2N : List Dt → M (List Dt)
  | [x, y] => (sqM x).bd fun a => (sqM y).bd fun b => .ok (zipD a b)
  | _ => .bad
def zip3N : List Dt → M (List Dt)
  | [x, y, z] => (sqM x).bd fun a => (sqM y).bd fun b => (sqM z).bd fun c => .ok (zip3D a b c)
  | _ => .bad
/-- int(x): an int, a truth, the text 0 or 1 -/
def bIntD : List Dt → M Dt
  | [.int i] => .ok (.int i)
  | [.bl b] => .ok (.int (if b then 1 else 0))
  | [.str [48]] => .ok (.int 0)
  | [.str [49]] => .ok (.int 1)
  | _ => .bad
end L2

set_option Elab.async false
set_option linter.all false
namespace L2
def enumN : List Dt → M (List Dt)
  | [x] => (sqM x).bd fun a => .ok (enumD a)
  | _ => .bad
end L2

set_option Elab.async false
set_option linter.all false
namespace L2
end L2

set_option Elab.async false
set_option linter.all false
set_option maxRecDepth 100000
namespace Pg
open L2
def B_L_cell : SM := (sSeq (sIf (tOf (p2 oLt (getV 1) (pCall bLen (aCons (getV 0) aNil)))) (sRet (p2 oIx (getV 0) (getV 1))) sSkip)
  (sSeq (sIf (tOf (p2 oEq (getV 0) (pLst aNil))) (sRet (pC (.int 0))) sSkip)
  (sRet (p2 oAdd (p2 oMul (p2 oIx (getV 0) (p2 oMod (getV 1) (pCall bLen (aCons (getV 0) aNil)))) (pC (.int 31))) (getV 1)))))
def F_L_cell : List Dt → M Dt := fnM 2 0 B_L_cell
def B_L_pick : SM := (sSeq (sAsg (p2 oMod (p2 oMul (p2 oAdd (pCall F_L_cell (aCons (getV 0) (aCons (getV 1) aNil))) (p2 oMul (pC (.int 6151)) (p2 oAdd (getV 1) (pC (.int 1))))) (pC (.int 40692))) (pC (.int 2147483399))) (gNm 3))
  (sRet (p2 oMod (p2 oMod (p2 oAdd (p2 oMul (getV 3) (getV 3)) (p2 oDiv (getV 3) (pC (.int 31)))) (pC (.int 2147483629))) (getV 2))))
def F_L_pick : List Dt → M Dt := fnM 3 1 B_L_pick
def L_l_wave_0 : SM := (sIf (tOf (p2 oEq (pCall F_L_pick (aCons (getV 0) (aCons (p2 oAdd (getV 1) (p2 oMul (pC (.int 2)) (getV 5))) (aCons (pC (.int 2)) aNil)))) (pC (.int 0)))) (sAsg (p2 oAdd (getV 4) (p2 oIx (getV 4) (p1 oNeg (pC (.int 1))))) (gNm 4)) (sAsg (p2 oAdd (getV 4) (p2 oIx (getV 3) (pCall F_L_pick (aCons (getV 0) (aCons (p2 oAdd (p2 oAdd (getV 1) (p2 oMul (pC (.int 2)) (getV 5))) (pC (.int 1))) (aCons (pCall bLen (aCons (getV 3) aNil)) aNil)))))) (gNm 4)))
def B_L_wave : SM := (sSeq (sAsg (p2 oIx (getV 3) (pCall F_L_pick (aCons (getV 0) (aCons (getV 1) (aCons (pCall bLen (aCons (getV 3) aNil)) aNil))))) (gNm 4))
  (sSeq (sForC (iBy rng2M (aCons (pC (.int 1)) (aCons (getV 2) aNil))) (gNm 5) L_l_wave_0)
  (sRet (getV 4))))
def F_L_wave : List Dt → M Dt := fnM 4 2 B_L_wave
def B_turned_about : SM := (sRet (p1 oRevJ (getV 0)))
def F_turned_about : List Dt → M Dt := fnM 1 0 B_turned_about
def B_of_one_length : SM := (sRet (pCall bAll (aCons (pComp 1 [0] (iOf (getV 0)) (gNm 0) tYs (p2 oEq (pCall bLen (aCons (getV 0) aNil)) (pCall bLen (aCons (p2 oIx (getV 1) (pC (.int 0))) aNil)))) aNil)))
def F_of_one_length : List Dt → M Dt := fnM 1 0 B_of_one_length
def B_refuse_unlike : SM := (sIf (tNt (tOf (pCall F_of_one_length (aCons (getV 0) aNil)))) (sRz 6 (uOf (pC (.str [116, 104, 101, 32, 119, 97, 118, 101, 115, 32, 104, 97, 118, 101, 32, 117, 110, 108, 105, 107, 101, 32, 108, 101, 110, 103, 116, 104, 115])))) sSkip)
def F_refuse_unlike : List Dt → M Dt := fnM 1 0 B_refuse_unlike
def B_both_at : SM := (sSeq (sIf (tOr' (tOf (p2 oEq (getV 0) (pC (.str [48])))) (tOf (p2 oEq (getV 1) (pC (.str [48]))))) (sRet (pC (.str [48]))) sSkip)
  (sSeq (sIf (tOr' (tOf (p2 oEq (getV 0) (pC (.str [120])))) (tOf (p2 oEq (getV 1) (pC (.str [120]))))) (sRet (pC (.str [120]))) sSkip)
  (sRet (pC (.str [49])))))
def F_both_at : List Dt → M Dt := fnM 2 0 B_both_at
def B_both : SM := (sSeq (sDrop (pCall F_refuse_unlike (aCons (pLst (aCons (getV 0) (aCons (getV 1) aNil))) aNil)))
  (sRet (pMeth mJoin (pC (.str [])) (aCons (pComp 2 [] (iBy zip2N (aCons (getV 0) (aCons (getV 1) aNil))) (gTp 2 (gZc (gNm 0) (gZc (gNm 1) gZn))) tYs (pCall F_both_at (aCons (getV 0) (aCons (getV 1) aNil)))) aNil))))
def F_both : List Dt → M Dt := fnM 2 0 B_both
def B_either_at : SM := (sSeq (sIf (tOr' (tOf (p2 oEq (getV 0) (pC (.str [49])))) (tOf (p2 oEq (getV 1) (pC (.str [49]))))) (sRet (pC (.str [49]))) sSkip)
  (sSeq (sIf (tOr' (tOf (p2 oEq (getV 0) (pC (.str [120])))) (tOf (p2 oEq (getV 1) (pC (.str [120]))))) (sRet (pC (.str [120]))) sSkip)
  (sRet (pC (.str [48])))))
def F_either_at : List Dt → M Dt := fnM 2 0 B_either_at
def B_either : SM := (sSeq (sDrop (pCall F_refuse_unlike (aCons (pLst (aCons (getV 0) (aCons (getV 1) aNil))) aNil)))
  (sRet (pMeth mJoin (pC (.str [])) (aCons (pComp 2 [] (iBy zip2N (aCons (getV 0) (aCons (getV 1) aNil))) (gTp 2 (gZc (gNm 0) (gZc (gNm 1) gZn))) tYs (pCall F_either_at (aCons (getV 0) (aCons (getV 1) aNil)))) aNil))))
def F_either : List Dt → M Dt := fnM 2 0 B_either
def B_unlike_at : SM := (sSeq (sIf (tOr' (tOf (p2 oEq (getV 0) (pC (.str [120])))) (tOf (p2 oEq (getV 1) (pC (.str [120]))))) (sRet (pC (.str [120]))) sSkip)
  (sRet (pIf (tOf (p2 oEq (getV 0) (getV 1))) (pC (.str [48])) (pC (.str [49])))))
def F_unlike_at : List Dt → M Dt := fnM 2 0 B_unlike_at
def B_unlike : SM := (sSeq (sDrop (pCall F_refuse_unlike (aCons (pLst (aCons (getV 0) (aCons (getV 1) aNil))) aNil)))
  (sRet (pMeth mJoin (pC (.str [])) (aCons (pComp 2 [] (iBy zip2N (aCons (getV 0) (aCons (getV 1) aNil))) (gTp 2 (gZc (gNm 0) (gZc (gNm 1) gZn))) tYs (pCall F_unlike_at (aCons (getV 0) (aCons (getV 1) aNil)))) aNil))))
def F_unlike : List Dt → M Dt := fnM 2 0 B_unlike
def B_in_common : SM := (sSeq (sDrop (pCall F_refuse_unlike (aCons (pLst (aCons (getV 0) (aCons (getV 1) aNil))) aNil)))
  (sRet (pMeth mJoin (pC (.str [])) (aCons (pComp 2 [] (iBy zip2N (aCons (getV 0) (aCons (getV 1) aNil))) (gTp 2 (gZc (gNm 0) (gZc (gNm 1) gZn))) tYs (pIf (tOf (p2 oEq (getV 0) (getV 1))) (getV 0) (pC (.str [120])))) aNil))))
def F_in_common : List Dt → M Dt := fnM 2 0 B_in_common
end Pg

set_option Elab.async false
set_option linter.all false
set_option maxRecDepth 100000
/-! One step each; what stands behind a step waits under a name. -/
namespace L2
def br {α : Type} (b : Bool) (x y : M α) : M α := if b = true then x else y
theorem br_t {α : Type} {x y : M α} : br true x y = x := .trans rfl rfl
theorem br_f {α : Type} {x y : M α} : br false x y = y := .trans rfl rfl
/-- what is checked of a size, a place -/
def ck {α : Type} (p : Prop) [Decidable p] (x : M α) : M α := if p then x else .bad
theorem ck_true {α : Type} {x : M α} {i : Decidable True} : @ck α True i x = x := if_pos trivial
theorem ck_of {α : Type} {p : Prop} [Decidable p] {x : M α} (h : p) : ck p x = x := if_pos h
def k2 (op : Dt → Dt → M Dt) (g : Rho → M Dt) (ρ : Rho) (x : Dt) : M Dt := (g ρ).bd (op x)
def kS3 (d : Dt) (a b : Option Int) : M Dt := oCut a b d
def kS2 (hi : Rho → M (Option Int)) (ρ : Rho) (d : Dt) (a : Option Int) : M Dt := (hi ρ).bd (kS3 d a)
def kS1 (lo hi : Rho → M (Option Int)) (ρ : Rho) (d : Dt) : M Dt := (lo ρ).bd (kS2 hi ρ d)
def kNot (b : Bool) : M Bool := .ok (!b)
def kAn (g : Rho → M Bool) (ρ : Rho) (b : Bool) : M Bool := if b = true then g ρ else .ok false
def kOr (g : Rho → M Bool) (ρ : Rho) (b : Bool) : M Bool := if b = true then .ok true else g ρ
def kPA2 (g : Rho → M Dt) (ρ : Rho) (b : Bool) : M Dt := if b = true then g ρ else .ok (.bl false)
def kPA (g : Rho → M Dt) (ρ : Rho) (d : Dt) : M Dt := (truM d).bd (kPA2 g ρ)
def kPO2 (g : Rho → M Dt) (ρ : Rho) (b : Bool) : M Dt := if b = true then .ok (.bl true) else g ρ
def kPO (g : Rho → M Dt) (ρ : Rho) (d : Dt) : M Dt := (truM d).bd (kPO2 g ρ)
def kIf (f g : Rho → M Dt) (ρ : Rho) (b : Bool) : M Dt := if b = true then f ρ else g ρ
def kC4 (op' : Dt → Dt → M Dt) (h : Rho → M Dt) (ρ : Rho) (y : Dt) (b : Bool) : M Dt := if b = true then (h ρ).bd (op' y) else .ok (.bl false)
def kC3 (op' : Dt → Dt → M Dt) (h : Rho → M Dt) (ρ : Rho) (y d : Dt) : M Dt := (truM d).bd (kC4 op' h ρ y)
def kC2 (op op' : Dt → Dt → M Dt) (h : Rho → M Dt) (ρ : Rho) (x y : Dt) : M Dt := (op x y).bd (kC3 op' h ρ y)
def kC1 (op op' : Dt → Dt → M Dt) (g h : Rho → M Dt) (ρ : Rho) (x : Dt) : M Dt := (g ρ).bd (kC2 op op' h ρ x)
def kA2 (d : Dt) (ds : List Dt) : M (List Dt) := .ok (d :: ds)
def kA1 (fs : Rho → M (List Dt)) (ρ : Rho) (d : Dt) : M (List Dt) := (fs ρ).bd (kA2 d)
def kT (ds : List Dt) : M Dt := ck (ds.length ≤ 10000) (.ok (.tup ds))
def kR (g : Rho → M Dt) (ρ : Rho) (ds : List Dt) : M Dt := ck (ds.length ≤ 10000) ((g ρ).bd (repD ds))
def kM (m : Sel) (fs : Rho → M (List Dt)) (ρ : Rho) (d : Dt) : M Dt := mtk (m d) (fs ρ)
def kP (Fs : List (List Dt → M Dt)) (fs : Rho → M (List Dt)) (ρ : Rho) (d : Dt) : M Dt := mtk (pkF Fs d) (fs ρ)
def kCo (k : Nat) (fr : List Nat) (g : GM) (tc : Rho → M Bool) (te : Rho → M Dt) (ρ : Rho) (ds : List Dt) : M Dt := (comM g tc te (startR k fr ρ) ds).calm.bd szL
def kRt (d : Dt) : M Fl := .ok (.rt d)
def kDr (ρ : Rho) (_ : Dt) : M Fl := .ok (.nx ρ)
def kNx (ρ : Rho) : M Fl := .ok (.nx ρ)
def kAs (g : GM) (ρ : Rho) (d : Dt) : M Fl := (g d ρ).calm.bd kNx
def kSi (s t : SM) (ρ : Rho) (b : Bool) : M Fl := if b = true then s ρ else t ρ
def kFo (g : GM) (s : SM) (ρ : Rho) (ds : List Dt) : M Fl := forM' g s ds ρ
def kOw (i : Nat) (ρ : Rho) (ds : List Dt) : M Fl := ck (ds.length ≤ 10000) (.ok (.nx (ρ.set i (.own ds))))
def kAp (i : Nat) (ρ : Rho) (ds : List Dt) (d : Dt) : M Fl := ck (ds.length < 10000) (.ok (.nx (ρ.set i (.own (ds ++ [d])))))
def kU (_ : Dt) : M Unit := .ok ()
def kRz (c : Nat) (_ : Unit) : M Fl := .ex c
def kF1 (s k : SM) (ρ : Rho) : M Fl := (s ρ).calm.bd (fork k)
def kIn (i : Int) : M (Option Int) := .ok (some i)
def kPt (d : Dt) : M (Option Int) := (intM d).bd kIn
def kZ2 (a b : List Dt) : M (List Dt) := .ok (zipD a b)
def kZ1 (y : Dt) (a : List Dt) : M (List Dt) := (seqM y).bd (kZ2 a)
def kY3 (a b c : List Dt) : M (List Dt) := .ok (zip3D a b c)
def kY2 (z : Dt) (a b : List Dt) : M (List Dt) := (seqM z).bd (kY3 a b)
def kY1 (y z : Dt) (a : List Dt) : M (List Dt) := (seqM y).bd (kY2 z a)
def kL1 (y : Dt) (a : List Dt) : M (List Dt) := (lstM y).bd (kZ2 a)
def kEn (a : List Dt) : M (List Dt) := .ok (enumD a)
def kRv (a : List Dt) : M (List Dt) := .ok a.reverse
def kD2 (ks : List (List Nat)) (vs : List Dt) (d : Dt) : M Dt := dgetM (ks.zip vs) d
def kD1 (ks : List (List Nat)) (g : Rho → M Dt) (ρ : Rho) (vs : List Dt) : M Dt := (g ρ).bd (kD2 ks vs)
section
variable {ρ : Rho} {f g h : Rho → M Dt} {tf tg : Rho → M Bool} {fs : Rho → M (List Dt)} {s t : SM} {d e x y z : Dt} {ds es gs' : List Dt} {i j n k np c : Nat} {a b : Int} {l m : List Nat} {p q : Bool} {op op' : Dt → Dt → M Dt} {lo hi : Rho → M (Option Int)} {gm : GM} {gs : List Dt → Rho → M Rho} {o o' : Option Int} {F : List Dt → M Dt} {it : IM} {kk : List Dt → M (List Dt)} {sl : Sel}
theorem a_getV : getV i ρ = gv ρ[i]? := .trans rfl rfl
theorem a_gv : gv (some (.val d)) = .ok d := .trans rfl rfl
theorem a_pC : pC d ρ = .ok d := .trans rfl rfl
theorem a_p2 : p2 op f g ρ = (f ρ).bd (k2 op g ρ) := .trans rfl rfl
theorem a_k2 : k2 op g ρ x = (g ρ).bd (op x) := .trans rfl rfl
theorem a_p1 {op : Dt → M Dt} : p1 op f ρ = (f ρ).bd op := .trans rfl rfl
theorem a_pSlice : pSlice f lo hi ρ = (f ρ).bd (kS1 lo hi ρ) := .trans rfl rfl
theorem a_kS1 : kS1 lo hi ρ d = (lo ρ).bd (kS2 hi ρ d) := .trans rfl rfl
theorem a_kS2 : kS2 hi ρ d o = (hi ρ).bd (kS3 d o) := .trans rfl rfl
theorem a_kS3a : kS3 (.str l) o o' = .ok (.str (cutZ l o o')) := .trans rfl rfl
theorem a_kS3b : kS3 (.lst ds) o o' = .ok (.lst (cutZ ds o o')) := .trans rfl rfl
theorem a_part0 : pPart none ρ = .ok none := .trans rfl rfl
theorem a_part1 : pPart (some f) ρ = (f ρ).bd kPt := .trans rfl rfl
theorem a_kPt : kPt (.int a) = .ok (some a) := .trans rfl rfl
theorem a_tOf : tOf f ρ = (f ρ).bd truM := .trans rfl rfl
theorem a_truM : truM (.bl p) = .ok p := .trans rfl rfl
theorem a_tNt : tNt tf ρ = (tf ρ).bd kNot := .trans rfl rfl
theorem a_kNot : kNot p = .ok (!p) := .trans rfl rfl
theorem a_tAn : tAn tf tg ρ = (tf ρ).bd (kAn tg ρ) := .trans rfl rfl
theorem a_kAnT : kAn tg ρ true = tg ρ := .trans rfl rfl
theorem a_kAnF : kAn tg ρ false = .ok false := .trans rfl rfl
theorem a_tOr : tOr' tf tg ρ = (tf ρ).bd (kOr tg ρ) := .trans rfl rfl
theorem a_kOrT : kOr tg ρ true = .ok true := .trans rfl rfl
theorem a_kOrF : kOr tg ρ false = tg ρ := .trans rfl rfl
theorem a_pAn : pAn f g ρ = (f ρ).bd (kPA g ρ) := .trans rfl rfl
theorem a_kPA : kPA g ρ (.bl p) = kPA2 g ρ p := .trans rfl rfl
theorem a_kPAT : kPA2 g ρ true = g ρ := .trans rfl rfl
theorem a_kPAF : kPA2 g ρ false = .ok (.bl false) := .trans rfl rfl
theorem a_pOr : pOr f g ρ = (f ρ).bd (kPO g ρ) := .trans rfl rfl
theorem a_kPO : kPO g ρ (.bl p) = kPO2 g ρ p := .trans rfl rfl
theorem a_kPOT : kPO2 g ρ true = .ok (.bl true) := .trans rfl rfl
theorem a_kPOF : kPO2 g ρ false = g ρ := .trans rfl rfl
theorem a_pIf : pIf tf f g ρ = (tf ρ).bd (kIf f g ρ) := .trans rfl rfl
theorem a_kIfT : kIf f g ρ true = f ρ := .trans rfl rfl
theorem a_kIfF : kIf f g ρ false = g ρ := .trans rfl rfl
theorem a_pChain : pChain op op' f g h ρ = (f ρ).bd (kC1 op op' g h ρ) := .trans rfl rfl
theorem a_kC1 : kC1 op op' g h ρ x = (g ρ).bd (kC2 op op' h ρ x) := .trans rfl rfl
theorem a_kC2 : kC2 op op' h ρ x y = (op x y).bd (kC3 op' h ρ y) := .trans rfl rfl
theorem a_kC3 : kC3 op' h ρ y (.bl p) = kC4 op' h ρ y p := .trans rfl rfl
theorem a_kC4T : kC4 op' h ρ y true = (h ρ).bd (op' y) := .trans rfl rfl
theorem a_kC4F : kC4 op' h ρ y false = .ok (.bl false) := .trans rfl rfl
theorem a_aNil : aNil ρ = .ok [] := .trans rfl rfl
theorem a_aCons : aCons f fs ρ = (f ρ).bd (kA1 fs ρ) := .trans rfl rfl
theorem a_kA1 : kA1 fs ρ d = (fs ρ).bd (kA2 d) := .trans rfl rfl
theorem a_kA2 : kA2 d ds = .ok (d :: ds) := .trans rfl rfl
theorem a_pLst : pLst fs ρ = (fs ρ).bd szL := .trans rfl rfl
theorem a_pTup : pTup fs ρ = (fs ρ).bd kT := .trans rfl rfl
theorem a_kT : kT ds = ck (ds.length ≤ 10000) (.ok (.tup ds)) := .trans rfl rfl
theorem a_pRep : pRep fs g ρ = (fs ρ).bd (kR g ρ) := .trans rfl rfl
theorem a_kR : kR g ρ ds = ck (ds.length ≤ 10000) ((g ρ).bd (repD ds)) := .trans rfl rfl
theorem a_repD : repD ds (.int a) = ck (-1000 ≤ a ∧ a ≤ 1000 ∧ ds.length * a.toNat ≤ 10000) (.ok (.lst (List.replicate a.toNat ds).flatten)) := .trans rfl rfl
theorem a_pCall : pCall F fs ρ = (fs ρ).bd F := .trans rfl rfl
theorem a_pMeth : pMeth sl f fs ρ = (f ρ).bd (kM sl fs ρ) := .trans rfl rfl
theorem a_kM : kM sl fs ρ d = mtk (sl d) (fs ρ) := .trans rfl rfl
theorem a_pPick {Fs : List (List Dt → M Dt)} : pPick Fs f fs ρ = (f ρ).bd (kP Fs fs ρ) := .trans rfl rfl
theorem a_kP {Fs : List (List Dt → M Dt)} : kP Fs fs ρ d = mtk (pkF Fs d) (fs ρ) := .trans rfl rfl
theorem a_mtk {k : List Dt → M Dt} {m : M (List Dt)} : mtk (some k) m = m.bd k := .trans rfl rfl
theorem a_iOf : iOf f ρ = (f ρ).bd seqM := .trans rfl rfl
theorem a_iBy : iBy kk fs ρ = (fs ρ).bd kk := .trans rfl rfl
theorem a_gNm : gNm i d ρ = .ok (ρ.set i (.val d)) := .trans rfl rfl
theorem a_gZn : gZn [] ρ = .ok ρ := .trans rfl rfl
theorem a_gZc : gZc gm gs (d :: ds) ρ = (gm d ρ).bd (gs ds) := .trans rfl rfl
theorem a_gTp1 : gTp n gs (.tup ds) ρ = ck (ds.length = n) (gs ds ρ) := .trans rfl rfl
theorem a_gTp2 : gTp n gs (.lst ds) ρ = ck (ds.length = n) (gs ds ρ) := .trans rfl rfl
theorem a_pComp {fr : List Nat} {tc : Rho → M Bool} {te : Rho → M Dt} : pComp k fr it gm tc te ρ = (it ρ).bd (kCo k fr gm tc te ρ) := .trans rfl rfl
theorem a_tYs : tYs ρ = .ok true := .trans rfl rfl
theorem a_sSkip : sSkip ρ = .ok (.nx ρ) := .trans rfl rfl
theorem a_sSeq : sSeq s t ρ = (s ρ).bd (sqk t) := .trans rfl rfl
theorem a_sqk1 : sqk s (.nx ρ) = s ρ := .trans rfl rfl
theorem a_sqk2 : sqk s (.rt d) = .ok (.rt d) := .trans rfl rfl
theorem a_sqk3 : sqk s (.bk ρ) = .ok (.bk ρ) := .trans rfl rfl
theorem a_sqk4 : sqk s (.ct ρ) = .ok (.ct ρ) := .trans rfl rfl
theorem a_sRet : sRet f ρ = (f ρ).bd kRt := .trans rfl rfl
theorem a_kRt : kRt d = .ok (.rt d) := .trans rfl rfl
theorem a_sDrop : sDrop f ρ = (f ρ).bd (kDr ρ) := .trans rfl rfl
theorem a_kDr : kDr ρ d = .ok (.nx ρ) := .trans rfl rfl
theorem a_sAsg : sAsg f gm ρ = (f ρ).bd (kAs gm ρ) := .trans rfl rfl
theorem a_kAs : kAs gm ρ d = (gm d ρ).calm.bd kNx := .trans rfl rfl
theorem a_kNx : kNx ρ = .ok (.nx ρ) := .trans rfl rfl
theorem a_sAug : sAug i f ρ = augK i f ρ ρ[i]? := .trans rfl rfl
theorem a_augK : augK i f ρ (some (.val (.int a))) = (f ρ).bd (augD i ρ a) := .trans rfl rfl
theorem a_augD : augD i ρ a (.int b) = .ok (.nx (ρ.set i (.val (.int (a + b))))) := .trans rfl rfl
theorem a_sIf : sIf tf s t ρ = (tf ρ).bd (kSi s t ρ) := .trans rfl rfl
theorem a_kSiT : kSi s t ρ true = s ρ := .trans rfl rfl
theorem a_kSiF : kSi s t ρ false = t ρ := .trans rfl rfl
theorem a_sForC : sForC it gm s ρ = ((it ρ).bd (kFo gm s ρ)).calm := .trans rfl rfl
theorem a_kFo : kFo gm s ρ ds = forM' gm s ds ρ := .trans rfl rfl
theorem a_for0 : forM' gm s [] ρ = .ok (.nx ρ) := .trans rfl rfl
theorem a_forS : forM' gm s (d :: ds) ρ = (gm d ρ).calm.bd (kF1 s (forM' gm s ds)) := .trans rfl rfl
theorem a_kF1 {k : SM} : kF1 s k ρ = (s ρ).calm.bd (fork k) := .trans rfl rfl
theorem a_fork1 : fork s (.nx ρ) = s ρ := .trans rfl rfl
theorem a_fork2 : fork s (.ct ρ) = s ρ := .trans rfl rfl
theorem a_fork3 : fork s (.bk ρ) = .ok (.nx ρ) := .trans rfl rfl
theorem a_fork4 : fork s (.rt d) = .ok (.rt d) := .trans rfl rfl
theorem a_sOwn : sOwn i fs ρ = (fs ρ).bd (kOw i ρ) := .trans rfl rfl
theorem a_kOw : kOw i ρ ds = ck (ds.length ≤ 10000) (.ok (.nx (ρ.set i (.own ds)))) := .trans rfl rfl
theorem a_sRel : sRel i s ρ = s (relB i ρ ρ[i]?) := .trans rfl rfl
theorem a_relB : relB i ρ (some (.own ds)) = ρ.set i (.val (.lst ds)) := .trans rfl rfl
theorem a_relB0 : relB i ρ (some (.val d)) = ρ := .trans rfl rfl
theorem a_sAppend : sAppend i f ρ = appK i f ρ ρ[i]? := .trans rfl rfl
theorem a_appK : appK i f ρ (some (.own ds)) = (f ρ).bd (kAp i ρ ds) := .trans rfl rfl
theorem a_kAp : kAp i ρ ds d = ck (ds.length < 10000) (.ok (.nx (ρ.set i (.own (ds ++ [d]))))) := .trans rfl rfl
theorem a_sPar : sPar i j fs ρ = (fs ρ).bd (parK i j ρ) := .trans rfl rfl
theorem a_parK : parK i j ρ [d, e] = .ok (.nx ((ρ.set i (.val d)).set j (.val e))) := .trans rfl rfl
theorem a_uOf : uOf f ρ = (f ρ).bd kU := .trans rfl rfl
theorem a_kU : kU d = .ok () := .trans rfl rfl
theorem a_uInt : uInt f ρ = (f ρ).bd uIn := .trans rfl rfl
theorem a_uIn : uIn (.int a) = ck (-2 ≤ a ∧ a ≤ 20) (.ok ()) := .trans rfl rfl
theorem a_sRz {fu : Rho → M Unit} : sRz k fu ρ = (fu ρ).bd (kRz k) := .trans rfl rfl
theorem a_kRz {u : Unit} : kRz c u = .ex c := .trans rfl rfl
theorem a_sTry {cs : List Nat} : sTry cs i s ρ = tryK cs i (s ρ) := .trans rfl rfl
theorem a_try1 {cs : List Nat} : tryK cs i (.ok (.nx ρ)) = (getV i ρ).bd kRt := .trans rfl rfl
theorem a_try2 {cs : List Nat} : tryK cs i (.ex k) = ck (k ∈ cs) (.ok (.rt (.str (wordZ k)))) := .trans rfl rfl
theorem a_fnM : fnM np n s ds = ck (ds.length = np) ((s (ds.map Bd.val ++ List.replicate n .no)).bd flV) := .trans rfl rfl
theorem a_flV1 : flV (.nx ρ) = .ok .non := .trans rfl rfl
theorem a_flV2 : flV (.rt d) = .ok d := .trans rfl rfl
theorem a_pDget {ks : List (List Nat)} : pDget ks fs g ρ = (fs ρ).bd (kD1 ks g ρ) := .trans rfl rfl
theorem a_kD1 {ks : List (List Nat)} : kD1 ks g ρ ds = (g ρ).bd (kD2 ks ds) := .trans rfl rfl
theorem a_kD2 {ks : List (List Nat)} : kD2 ks ds d = dgetM (ks.zip ds) d := .trans rfl rfl
theorem a_addI : oAdd (.int a) (.int b) = .ok (.int (a + b)) := .trans rfl rfl
theorem a_addS : oAdd (.str l) (.str m) = szS (l ++ m) := .trans rfl rfl
theorem a_addL : oAdd (.lst ds) (.lst es) = szL (ds ++ es) := .trans rfl rfl
theorem a_sub : oSub (.int a) (.int b) = .ok (.int (a - b)) := .trans rfl rfl
theorem a_mulI : oMul (.int a) (.int b) = ck ((-(2 ^ 64) < a ∧ a < 2 ^ 64) ∨ (-(2 ^ 64) < b ∧ b < 2 ^ 64)) (.ok (.int (a * b))) := .trans rfl rfl
theorem a_mulS : oMul (.str l) (.int b) = ck (-1000 ≤ b ∧ b ≤ 1000 ∧ l.length ≤ 1000) (szS (List.replicate b.toNat l).flatten) := .trans rfl rfl
theorem a_mod : oMod (.int a) (.int b) = ck (0 < b) (.ok (.int (a % b))) := .trans rfl rfl
theorem a_div : oDiv (.int a) (.int b) = ck (0 < b ∧ b < 1073741824) (.ok (.int (a / b))) := .trans rfl rfl
theorem a_shr : oShr (.int a) (.int b) = ck (0 ≤ b) (.ok (.int (a / 2 ^ b.toNat))) := .trans rfl rfl
theorem a_pow : oPow (.int a) (.int b) = ck (0 ≤ b ∧ b ≤ 1000 ∧ a.natAbs < 2 ^ 64) (.ok (.int (a ^ b.toNat))) := .trans rfl rfl
theorem a_and1 : oAnd1 (.int a) = ck (0 ≤ a) (.ok (.int (a % 2))) := .trans rfl rfl
theorem a_neg : oNeg (.int a) = .ok (.int (-a)) := .trans rfl rfl
theorem a_lt : oLt (.int a) (.int b) = .ok (.bl (decide (a < b))) := .trans rfl rfl
theorem a_le : oLe (.int a) (.int b) = .ok (.bl (decide (a ≤ b))) := .trans rfl rfl
theorem a_gt : oGt (.int a) (.int b) = .ok (.bl (decide (b < a))) := .trans rfl rfl
theorem a_ge : oGe (.int a) (.int b) = .ok (.bl (decide (b ≤ a))) := .trans rfl rfl
theorem a_eq : oEq d e = ck (dep d ≤ 50) (.ok (.bl (eqD d e))) := .trans rfl rfl
theorem a_ne : oNe d e = ck (dep d ≤ 50) (.ok (.bl (!eqD d e))) := .trans rfl rfl
theorem a_eqI : oEq (.int a) (.int b) = .ok (.bl (decide (a = b))) := .trans rfl rfl
theorem a_neI : oNe (.int a) (.int b) = .ok (.bl (!decide (a = b))) := .trans rfl rfl
theorem a_not : oNot (.bl p) = .ok (.bl (!p)) := .trans rfl rfl
theorem a_notin : oNotIn d e = (oIn d e).bd oNot := .trans rfl rfl
theorem a_isB : oIs (.bl p) (.bl q) = .ok (.bl (p == q)) := .trans rfl rfl
theorem a_isN : oIs d .non = .ok (.bl (isNon d)) := .trans rfl rfl
theorem a_isnot : oIsNot d e = (oIs d e).bd oNot := .trans rfl rfl
theorem a_ixS : oIx (.str l) (.int a) = ixC (atZ l a) := .trans rfl rfl
theorem a_ixL : oIx (.lst ds) (.int a) = ixD (atZ ds a) := .trans rfl rfl
theorem a_ixT : oIx (.tup ds) (.int a) = ixD (atZ ds a) := .trans rfl rfl
theorem a_ixC : ixC (some c) = .ok (.str [c]) := .trans rfl rfl
theorem a_ixD : ixD (some d) = .ok d := .trans rfl rfl
theorem a_lenS : bLen [.str l] = .ok (.int l.length) := .trans rfl rfl
theorem a_lenL : bLen [.lst ds] = .ok (.int ds.length) := .trans rfl rfl
theorem a_lenT : bLen [.tup ds] = .ok (.int ds.length) := .trans rfl rfl
theorem a_min : bMin [.int a, .int b] = .ok (.int (if b < a then b else a)) := .trans rfl rfl
theorem a_max : bMax [.int a, .int b] = .ok (.int (if b > a then b else a)) := .trans rfl rfl
theorem a_all : bAll [.lst ds] = blM (fun bs => bs.all id) (bools ds) := .trans rfl rfl
theorem a_any : bAny [.lst ds] = blM (fun bs => bs.any id) (bools ds) := .trans rfl rfl
theorem a_list1 : bList [.lst ds] = .ok (.lst ds) := .trans rfl rfl
theorem a_list2 : bList [.str l] = .ok (.lst (sgD l)) := .trans rfl rfl
theorem a_int1 : bInt [.int a] = .ok (.int a) := .trans rfl rfl
theorem a_int2 : bInt [.bl p] = .ok (.int (if p then 1 else 0)) := .trans rfl rfl
theorem a_seqL : seqM (.lst ds) = .ok ds := .trans rfl rfl
theorem a_seqT : seqM (.tup ds) = .ok ds := .trans rfl rfl
theorem a_seqS : seqM (.str l) = .ok (sgD l) := .trans rfl rfl
theorem a_mJoin : mJoin (.str []) = some joinM := .trans rfl rfl
theorem a_joinM : joinM [.lst ds] = jnM (strsM ds) := .trans rfl rfl
theorem a_mCountS : mCountS (.str l) = some (cntS l) := .trans rfl rfl
theorem a_cntS : cntS l [.str [c]] = .ok (.int (l.count c)) := .trans rfl rfl
theorem a_putV : putV i d ρ = ρ.set i (.val d) := .trans rfl rfl
theorem a_vOnly : vOnly (some (.val d)) = .val d := .trans rfl rfl
theorem a_revj : oRevJ (.str l) = .ok (.str l.reverse) := .trans rfl rfl
theorem a_zip2 : zip2M [x, y] = (seqM x).bd (kZ1 y) := .trans rfl rfl
theorem a_kZ1 : kZ1 y ds = (seqM y).bd (kZ2 ds) := .trans rfl rfl
theorem a_kZ2 : kZ2 ds es = .ok (zipD ds es) := .trans rfl rfl
theorem a_zip3 : zip3M [x, y, z] = (seqM x).bd (kY1 y z) := .trans rfl rfl
theorem a_kY1 : kY1 y z ds = (seqM y).bd (kY2 z ds) := .trans rfl rfl
theorem a_kY2 : kY2 z ds es = (seqM z).bd (kY3 ds es) := .trans rfl rfl
theorem a_kY3 : kY3 ds es gs' = .ok (zip3D ds es gs') := .trans rfl rfl
theorem a_zipL : zipLM [x, y] = (lstM x).bd (kL1 y) := .trans rfl rfl
theorem a_kL1 : kL1 y ds = (lstM y).bd (kZ2 ds) := .trans rfl rfl
theorem a_lstM : lstM (.lst ds) = .ok ds := .trans rfl rfl
theorem a_enum : enumM [x] = (seqM x).bd kEn := .trans rfl rfl
theorem a_kEn : kEn ds = .ok (enumD ds) := .trans rfl rfl
theorem a_rev : revM [x] = (seqM x).bd kRv := .trans rfl rfl
theorem a_kRv : kRv ds = .ok ds.reverse := .trans rfl rfl
theorem a_rng1 : rng1M [.int a] = ck (-1000000 ≤ a ∧ a ≤ 10000) (.ok (rngD 0 a)) := .trans rfl rfl
theorem a_rng2 : rng2M [.int a, .int b] = ck (-1000000 ≤ a ∧ a ≤ 1000000 ∧ -1000000 ≤ b ∧ b ≤ 1000000 ∧ b - a ≤ 10000) (.ok (rngD a b)) := .trans rfl rfl
theorem a_str1 : bStr [.int a] = ck (0 ≤ a ∧ a ≤ 9) (.ok (.str [48 + a.toNat])) := .trans rfl rfl
theorem a_blM {k : List Bool → Bool} {bs : List Bool} : blM k (some bs) = .ok (.bl (k bs)) := .trans rfl rfl
theorem a_jnM {ls : List (List Nat)} : jnM (some ls) = szS ls.flatten := .trans rfl rfl
theorem a_eqS : oEq (.str l) (.str m) = .ok (.bl (decide (l = m))) := by
  show M.ok (Dt.bl (l == m)) = _
  congr 2
  by_cases h : l = m <;> simp [h]
theorem a_neS : oNe (.str l) (.str m) = .ok (.bl (!decide (l = m))) := by
  show M.ok (Dt.bl (!(l == m))) = _
  congr 2
  by_cases h : l = m <;> simp [h]
theorem a_inS : oIn (.str [c]) (.str l) = .ok (.bl (decide (c ∈ l))) := by simp only [oIn]
theorem szS_ok (h : l.length ≤ 10000) : szS l = .ok (.str l) := by unfold szS; rw [if_pos h]
theorem szL_ok (h : ds.length ≤ 10000) : szL ds = .ok (.lst ds) := by unfold szL; rw [if_pos h]
end
end L2

section MacS
open L2
local macro_rules
  | `(tactic| exists evw, $xs:term,*) => `(tactic| simp only [a_getV, a_gv, a_pC, a_p2, a_k2, a_p1, a_pSlice, a_kS1, a_kS2, a_kS3a, a_kS3b, a_part0, a_part1, a_kPt, a_tOf, a_truM, a_tNt, a_kNot, a_tAn, a_kAnT, a_kAnF, a_tOr, a_kOrT, a_kOrF, a_pAn, a_kPA, a_kPAT, a_kPAF, a_pOr, a_kPO, a_kPOT, a_kPOF, a_pIf, a_kIfT, a_kIfF, a_pChain, a_kC1, a_kC2, a_kC3, a_kC4T, a_kC4F, a_aNil, a_aCons, a_kA1, a_kA2, a_pLst, a_pTup, a_kT, a_pRep, a_kR, a_repD, a_pCall, a_pMeth, a_kM, a_pPick, a_kP, a_mtk, a_iOf, a_iBy, a_gNm, a_gZn, a_gZc, a_gTp1, a_gTp2, a_pComp, a_tYs, a_sSkip, a_sSeq, a_sqk1, a_sqk2, a_sqk3, a_sqk4, a_sRet, a_kRt, a_sDrop, a_kDr, a_sAsg, a_kAs, a_kNx, a_sAug, a_augK, a_augD, a_sIf, a_kSiT, a_kSiF, a_sForC, a_kFo, a_for0, a_forS, a_kF1, a_fork1, a_fork2, a_fork3, a_fork4, a_sOwn, a_kOw, a_sRel, a_relB, a_relB0, a_sAppend, a_appK, a_kAp, a_sPar, a_parK, a_uOf, a_kU, a_uInt, a_uIn, a_sRz, a_kRz, a_sTry, a_try1, a_try2, a_fnM, a_flV1, a_flV2, a_pDget, a_kD1, a_kD2, a_addI, a_addS, a_addL, a_sub, a_mulI, a_mulS, a_mod, a_div, a_shr, a_pow, a_and1, a_neg, a_lt, a_le, a_gt, a_ge, a_eqI, a_neI, a_not, a_notin, a_isB, a_isN, a_isnot, a_ixS, a_ixL, a_ixT, a_ixC, a_ixD, a_lenS, a_lenL, a_lenT, a_min, a_max, a_all, a_any, a_list1, a_list2, a_int1, a_int2, a_seqL, a_seqT, a_seqS, a_mJoin, a_joinM, a_mCountS, a_cntS, a_putV, a_vOnly, a_revj, a_zip2, a_kZ1, a_kZ2, a_zip3, a_kY1, a_kY2, a_kY3, a_zipL, a_kL1, a_lstM, a_enum, a_kEn, a_rev, a_kRv, a_rng1, a_rng2, a_str1, a_blM, a_jnM, a_eqS, a_neS, a_inS, br_t, br_f, bd_ok, bd_ex, bd_bad, calm_ok, calm_bad, List.length_cons, List.length_nil, List.map_cons, List.map_nil, List.replicate_succ, List.replicate_zero, List.cons_append, List.nil_append, List.append_nil, List.getElem?_cons_zero, List.getElem?_cons_succ, List.set_cons_succ, List.set_cons_zero, List.length_map, Nat.reduceAdd, Nat.zero_add, Bool.not_true, Bool.not_false, decide_true, decide_false, ck_true, eq_self, $[$xs:term],*])
local macro_rules
  | `(tactic| exists ev) => `(tactic| try exists evw, eq_self)
  | `(tactic| exists go) => `(tactic| repeat (first | rw [ck_of (by omega)] | rw [szS_ok (by (try simp only [List.length_append, List.length_cons, List.length_nil]); omega)] | rw [szL_ok (by (try simp only [List.length_append, List.length_cons, List.length_nil]); omega)] | exists evw, eq_self))

set_option Elab.async false
set_option linter.all false
set_option maxRecDepth 100000
/-! What the common functions reckon. -/
namespace Pg
open L2
/-! ### the script's cells -/
def cellZ (ns : List Int) (k : Int) : Int :=
  if k < ns.length then ns.getD k.toNat 0 else if ns = [] then 0 else ns.getD (k % (ns.length : Int)).toNat 0 * 31 + k
def drawnZ (ns : List Int) (k : Int) : Int := (cellZ ns k + 6151 * (k + 1)) * 40692 % 2147483399
def pickZ (ns : List Int) (k many : Int) : Int := (drawnZ ns k * drawnZ ns k + drawnZ ns k / 31) % 2147483629 % many
theorem drawnZ_lo (ns : List Int) (k : Int) : 0 ≤ drawnZ ns k := Int.emod_nonneg _ (by decide)
theorem drawnZ_hi (ns : List Int) (k : Int) : drawnZ ns k < 2147483399 := Int.emod_lt_of_pos _ (by decide)
theorem pickZ_lo (ns : List Int) (k : Int) {many : Int} (h : 0 < many) : 0 ≤ pickZ ns k many := Int.emod_nonneg _ (by omega)
theorem pickZ_hi (ns : List Int) (k : Int) {many : Int} (h : 0 < many) : pickZ ns k many < many := Int.emod_lt_of_pos _ h
abbrev scr (ns : List Int) : Dt := .lst (ns.map Dt.int)
theorem atZ_nat {α : Type} {l : List α} {n : Nat} {x : α} (h : l[n]? = some x) : atZ l (n : Int) = some x := by
  have hlt : n < l.length := (List.getElem?_eq_some_iff.mp h).1
  unfold atZ ixZ
  rw [if_pos (by omega), if_pos (by omega)]
  simpa using h
theorem atZ_int {α : Type} {l : List α} {i : Int} (h0 : 0 ≤ i) (h1 : i < l.length) : atZ l i = some (l[i.toNat]'(by omega)) := by
  obtain ⟨n, rfl⟩ : ∃ n : Nat, i = n := ⟨i.toNat, by omega⟩
  refine atZ_nat ?_
  simp
theorem atZ_ints {ns : List Int} {k : Int} (h0 : 0 ≤ k) (h1 : k < ns.length) : atZ (ns.map Dt.int) k = some (.int (ns.getD k.toNat 0)) := by
  rw [atZ_int h0 (by simpa using h1)]
  have hlt : k.toNat < ns.length := by omega
  simp [hlt]
theorem dep_ints : ∀ ns : List Int, deps (ns.map Dt.int) = 0
  | [] => rfl
  | n :: ns => by simp only [List.map_cons, deps, dep, dep_ints ns]; omega
theorem eqD_nil (ns : List Int) : eqD (scr ns) (.lst []) = decide (ns = []) := by
  cases ns <;> simp [eqD, eqDs, scr]
theorem cell_eq {ns : List Int} {k : Int} (hk : 0 ≤ k) : F_L_cell [scr ns, .int k] = .ok (.int (cellZ ns k)) := by
  unfold F_L_cell B_L_cell cellZ
  exists go
  by_cases h1 : k < ns.length
  · simp only [h1, decide_true, if_true]
    exists go
    rw [atZ_ints hk h1]
    exists go
  · simp only [h1, decide_false, if_false]
    exists go
    rw [a_eq, ck_of (by simp only [dep, dep_ints]; omega), eqD_nil]
    by_cases h2 : ns = []
    · simp only [h2, decide_true, if_true]
      exists go
    · have hp : 0 < (ns.length : Int) := by have := List.length_pos_iff.mpr h2; omega
      have m0 : 0 ≤ k % (ns.length : Int) := Int.emod_nonneg _ (by omega)
      have m1 : k % (ns.length : Int) < ns.length := Int.emod_lt_of_pos _ hp
      simp only [h2, decide_false, if_false]
      exists go
      rw [atZ_ints m0 m1]
      exists go
theorem pick_eq {ns : List Int} {k many : Int} (hk : 0 ≤ k) (hm : 0 < many) : F_L_pick [scr ns, .int k, .int many] = .ok (.int (pickZ ns k many)) := by
  have d0 := drawnZ_lo ns k
  have d1 := drawnZ_hi ns k
  unfold F_L_pick B_L_pick
  exists go
  rw [cell_eq hk]
  exists go
  rw [show (cellZ ns k + 6151 * (k + 1)) * 40692 % 2147483399 = drawnZ ns k from rfl]
  exists go
  rfl
mutual
theorem eqD_refl : ∀ d : Dt, eqD d d = true
  | .non => rfl
  | .bl b => by simp [eqD]
  | .int b => by simp [eqD]
  | .str b => by simp [eqD]
  | .tup b => by simp only [eqD]; exact eqDs_refl b
  | .lst b => by simp only [eqD]; exact eqDs_refl b
theorem eqDs_refl : ∀ d : List Dt, eqDs d d = true
  | [] => rfl
  | a :: r => by simp only [eqDs]; rw [eqD_refl a, eqDs_refl r]; rfl
end
/-! ### loops -/
theorem for_list {g : GM} {b : SM} : ∀ (ds : List Dt) (st : Nat → Rho), (∀ i d, ds[i]? = some d → ((g d (st i)).calm.bd fun ρ1 => (b ρ1).calm) = .ok (.nx (st (i + 1)))) → forM' g b ds (st 0) = .ok (.nx (st ds.length))
  | [], st, _ => rfl
  | d :: ds, st, h => by
    have h0 := h 0 d rfl
    have ih := for_list ds (fun i => st (i + 1)) fun i e he => h (i + 1) e (by simpa using he)
    rw [a_forS]
    cases hg : g d (st 0) with
    | ok ρ1 =>
      rw [hg] at h0
      simp only [calm_ok, bd_ok] at h0 ⊢
      rw [a_kF1, h0]
      exact ih
    | ex c => rw [hg] at h0; cases h0
    | bad => rw [hg] at h0; cases h0
theorem for_range {g : GM} {b : SM} (lo hi : Int) (st : Nat → Rho) (h : ∀ i : Nat, i < (hi - lo).toNat → ((g (.int (lo + i)) (st i)).calm.bd fun ρ1 => (b ρ1).calm) = .ok (.nx (st (i + 1)))) : forM' g b (rngD lo hi) (st 0) = .ok (.nx (st (hi - lo).toNat)) := by
  have e : (rngD lo hi).length = (hi - lo).toNat := by simp [rngD]
  rw [← e]
  refine for_list _ st fun i d hd => ?_
  unfold rngD at hd
  simp only [List.getElem?_map, Option.map_eq_some_iff] at hd
  obtain ⟨j, hj, rfl⟩ := hd
  have hi' : i < (hi - lo).toNat := by
    have := (List.getElem?_eq_some_iff.mp hj).1
    simpa using this
  rw [List.getElem?_range hi'] at hj
  cases hj
  exact h i hi'
theorem for_rangeS {g : GM} {b : SM} {lo hi : Int} {ρ0 : Rho} (st : Nat → Rho) (h0 : ρ0 = st 0) (h : ∀ i : Nat, i < (hi - lo).toNat → ((g (.int (lo + i)) (st i)).calm.bd fun ρ1 => (b ρ1).calm) = .ok (.nx (st (i + 1)))) : forM' g b (rngD lo hi) ρ0 = .ok (.nx (st (hi - lo).toNat)) := by
  subst h0
  exact for_range lo hi st h
/-! ### drawn waves -/
def signZ (ns : List Int) (k : Int) (sg : List Nat) : Nat := sg.getD (pickZ ns k sg.length).toNat 0
theorem signZ_mem (ns : List Int) (k : Int) {sg : List Nat} (h : sg ≠ []) : signZ ns k sg ∈ sg := by
  have hp : 0 < (sg.length : Int) := by
    have := List.length_pos_iff.mpr h
    omega
  have h1 := pickZ_lo ns k hp
  have h2 := pickZ_hi ns k hp
  unfold signZ
  have hlt : (pickZ ns k sg.length).toNat < sg.length := by omega
  rw [List.getD_eq_getElem?_getD, List.getElem?_eq_getElem hlt, Option.getD_some]
  exact List.getElem_mem hlt
theorem signZ_at (ns : List Int) (k : Int) {sg : List Nat} (h : sg ≠ []) : atZ sg (pickZ ns k sg.length) = some (signZ ns k sg) := by
  have hp : 0 < (sg.length : Int) := by
    have := List.length_pos_iff.mpr h
    omega
  have h1 := pickZ_lo ns k hp
  have h2 := pickZ_hi ns k hp
  rw [atZ_int h1 h2]
  have hlt : (pickZ ns k sg.length).toNat < sg.length := by omega
  unfold signZ
  rw [List.getD_eq_getElem?_getD, List.getElem?_eq_getElem hlt, Option.getD_some]
def waveN (ns : List Int) (a : Int) (sg : List Nat) : Nat → List Nat
  | 0 => [signZ ns a sg]
  | k + 1 => if pickZ ns (a + 2 * ((k : Int) + 1)) 2 = 0 then waveN ns a sg k ++ [(waveN ns a sg k).getLastD 0] else waveN ns a sg k ++ [signZ ns (a + 2 * ((k : Int) + 1) + 1) sg]
def waveL (ns : List Int) (a many : Int) (sg : List Nat) : List Nat := waveN ns a sg (many - 1).toNat
theorem waveN_length (ns : List Int) (a : Int) (sg : List Nat) : ∀ k, (waveN ns a sg k).length = k + 1
  | 0 => rfl
  | k + 1 => by
    unfold waveN
    split <;> simp [waveN_length ns a sg k]
theorem waveN_mem (ns : List Int) (a : Int) {sg : List Nat} (h : sg ≠ []) : ∀ k, ∀ c ∈ waveN ns a sg k, c ∈ sg
  | 0 => by
    intro c hc
    simp [waveN] at hc
    rw [hc]
    exact signZ_mem ns a h
  | k + 1 => by
    intro c hc
    have ih := waveN_mem ns a h k
    unfold waveN at hc
    split at hc
    · rcases List.mem_append.mp hc with hc | hc
      · exact ih c hc
      · simp only [List.mem_singleton] at hc
        have hne : waveN ns a sg k ≠ [] := by
          intro z
          have := waveN_length ns a sg k
          rw [z] at this
          simp at this
        rw [hc, List.getLastD_eq_getLast?, List.getLast?_eq_some_getLast hne, Option.getD_some]
        exact ih _ (List.getLast_mem hne)
    · rcases List.mem_append.mp hc with hc | hc
      · exact ih c hc
      · simp only [List.mem_singleton] at hc
        rw [hc]
        exact signZ_mem ns _ h
theorem waveL_length (ns : List Int) (a : Int) {many : Int} (sg : List Nat) (h : 1 ≤ many) : ((waveL ns a many sg).length : Int) = many := by
  unfold waveL
  rw [waveN_length]
  omega
theorem waveL_mem (ns : List Int) (a many : Int) {sg : List Nat} (h : sg ≠ []) : ∀ c ∈ waveL ns a many sg, c ∈ sg := waveN_mem ns a h _
theorem atZ_last {l : List Nat} (h : l ≠ []) : atZ l (-1) = some (l.getLastD 0) := by
  have hp := List.length_pos_iff.mpr h
  unfold atZ ixZ
  rw [if_neg (by omega), if_pos (by omega)]
  have e : ((-1 : Int) + (l.length : Nat)).toNat = l.length - 1 := by omega
  simp only [Option.bind_some, e]
  rw [List.getLastD_eq_getLast?, List.getLast?_eq_getElem?, List.getElem?_eq_getElem (by omega)]
  rfl
theorem wave_eq {ns : List Int} {a many : Int} {sg : List Nat} (ha : 0 ≤ a) (h1 : 1 ≤ many) (h2 : many ≤ 1000) (hs : sg ≠ []) (hz : sg.length ≤ 1000) : F_L_wave [scr ns, .int a, .int many, .str sg] = .ok (.str (waveL ns a many sg)) := by
  have hp : 0 < (sg.length : Int) := by
    have := List.length_pos_iff.mpr hs
    omega
  unfold F_L_wave B_L_wave L_l_wave_0
  exists go
  rw [pick_eq ha hp]
  exists go
  rw [signZ_at ns a hs]
  exists go
  rw [for_rangeS (st := fun i => [.val (scr ns), .val (.int a), .val (.int many), .val (.str sg), .val (.str (waveN ns a sg i)), match i with | 0 => .no | j + 1 => .val (.int (1 + (j : Nat)))])]
  · exists go
    rfl
  · rfl
  · intro i hi
    have wl := waveN_length ns a sg i
    have wne : waveN ns a sg i ≠ [] := by
      intro z
      rw [z] at wl
      simp at wl
    exists go
    rw [pick_eq (by omega) (by decide)]
    exists go
    have e0 : a + 2 * (1 + (i : Int)) = a + 2 * ((i : Int) + 1) := by omega
    by_cases hq : pickZ ns (a + 2 * ((i : Int) + 1)) 2 = 0
    · rw [e0]
      simp only [hq, decide_true]
      exists go
      rw [atZ_last wne]
      exists go
      simp only [waveN, hq, if_true]
    · rw [e0]
      simp only [hq, decide_false]
      exists go
      rw [pick_eq (by omega) hp]
      exists go
      rw [signZ_at ns _ hs]
      exists go
      simp only [waveN, hq, if_false]
      rw [e0]
end Pg

set_option Elab.async false
set_option linter.all false
set_option maxRecDepth 100000
/-! What the program's functions reckon. -/
namespace Pg
open L2
/-! ### comprehensions -/
def kSome (x : Dt) : M (Option Dt) := .ok (some x)
def kX2 (te : Rho → M Dt) (ρ : Rho) (b : Bool) : M (Option Dt) := if b = true then (te ρ).bd kSome else .ok none
def kX1 (tc : Rho → M Bool) (te : Rho → M Dt) (ρ : Rho) : M (Option Dt) := (tc ρ).bd (kX2 te ρ)
def stC (g : GM) (tc : Rho → M Bool) (te : Rho → M Dt) (ρ0 : Rho) (d : Dt) : M (Option Dt) := (g d ρ0).bd (kX1 tc te)
theorem c_some {x : Dt} : kSome x = .ok (some x) := .trans rfl rfl
theorem c_x2t {te : Rho → M Dt} {ρ : Rho} : kX2 te ρ true = (te ρ).bd kSome := .trans rfl rfl
theorem c_x2f {te : Rho → M Dt} {ρ : Rho} : kX2 te ρ false = .ok none := .trans rfl rfl
theorem c_x1 {tc : Rho → M Bool} {te : Rho → M Dt} {ρ : Rho} : kX1 tc te ρ = (tc ρ).bd (kX2 te ρ) := .trans rfl rfl
theorem c_st {g : GM} {tc : Rho → M Bool} {te : Rho → M Dt} {ρ : Rho} {d : Dt} : stC g tc te ρ d = (g d ρ).bd (kX1 tc te) := .trans rfl rfl
theorem com_of {g : GM} {tc : Rho → M Bool} {te : Rho → M Dt} {ρ0 : Rho} (f : Dt → Option Dt) : ∀ (ds : List Dt), (∀ d ∈ ds, stC g tc te ρ0 d = .ok (f d)) → comM g tc te ρ0 ds = .ok (ds.filterMap f)
  | [], _ => rfl
  | d :: ds, h => by
    have h0 := h d List.mem_cons_self
    have ih := com_of f ds fun e he => h e (List.mem_cons_of_mem _ he)
    simp only [comM]
    rw [c_st] at h0
    cases hg : g d ρ0 with
    | ok ρ1 =>
      rw [hg] at h0
      simp only [bd_ok, c_x1] at h0 ⊢
      cases ht : tc ρ1 with
      | ok b =>
        rw [ht] at h0
        simp only [bd_ok] at h0 ⊢
        cases b with
        | false =>
          rw [c_x2f] at h0
          cases hf : f d with
          | none => simp only [Bool.false_eq_true, if_false, ih, List.filterMap_cons, hf]
          | some x => rw [hf] at h0; cases h0
        | true =>
          rw [c_x2t] at h0
          simp only [if_true]
          cases hx : te ρ1 with
          | ok x =>
            rw [hx] at h0
            simp only [bd_ok, c_some] at h0 ⊢
            injection h0 with h0
            simp only [ih, bd_ok, List.filterMap_cons, ← h0]
          | ex c => rw [hx] at h0; cases h0
          | bad => rw [hx] at h0; cases h0
      | ex c => rw [ht] at h0; cases h0
      | bad => rw [ht] at h0; cases h0
    | ex c => rw [hg] at h0; cases h0
    | bad => rw [hg] at h0; cases h0
theorem com_map {α : Type} {g : GM} {tc : Rho → M Bool} {te : Rho → M Dt} {ρ0 : Rho} (e : α → Dt) (f : α → Option Dt) : ∀ (xs : List α), (∀ x ∈ xs, stC g tc te ρ0 (e x) = .ok (f x)) → comM g tc te ρ0 (xs.map e) = .ok (xs.filterMap f)
  | [], _ => rfl
  | x :: xs, h => by
    have h1 := com_of (g := g) (tc := tc) (te := te) (ρ0 := ρ0) (fun _ => f x) [e x] (fun d hd => by
      have : d = e x := by simpa using hd
      rw [this]
      exact h x List.mem_cons_self)
    have ih := com_map e f xs fun y hy => h y (List.mem_cons_of_mem _ hy)
    rw [List.map_cons]
    simp only [comM] at h1 ⊢
    cases hg : g (e x) ρ0 with
    | ok ρ1 =>
      rw [hg] at h1
      simp only [bd_ok] at h1 ⊢
      cases ht : tc ρ1 with
      | ok b =>
        rw [ht] at h1
        simp only [bd_ok] at h1 ⊢
        cases b with
        | false =>
          simp only [Bool.false_eq_true, if_false] at h1 ⊢
          rw [ih]
          cases hf : f x with
          | none => simp only [List.filterMap_cons, hf]
          | some y => rw [List.filterMap_cons, hf] at h1; cases h1
        | true =>
          simp only [if_true] at h1 ⊢
          cases hx : te ρ1 with
          | ok y =>
            rw [hx] at h1
            simp only [bd_ok] at h1 ⊢
            rw [ih]
            cases hf : f x with
            | none => rw [List.filterMap_cons, hf] at h1; cases h1
            | some z =>
              rw [List.filterMap_cons, hf] at h1
              simp only [bd_ok, List.filterMap_cons, hf]
              cases h1
              rfl
          | ex c => rw [hx] at h1; cases h1
          | bad => rw [hx] at h1; cases h1
      | ex c => rw [ht] at h1; cases h1
      | bad => rw [ht] at h1; cases h1
    | ex c => rw [hg] at h1; cases h1
    | bad => rw [hg] at h1; cases h1
theorem com_rng {g : GM} {tc : Rho → M Bool} {te : Rho → M Dt} {ρ0 : Rho} {lo hi : Int} (f : Nat → Option Dt) (h : ∀ i, i < (hi - lo).toNat → stC g tc te ρ0 (.int (lo + (i : Nat))) = .ok (f i)) : comM g tc te ρ0 (rngD lo hi) = .ok ((List.range (hi - lo).toNat).filterMap f) :=
  com_map (fun (i : Nat) => .int (lo + (i : Nat))) f _ fun i hi' => h i (by simpa using hi')
theorem com_sgs {g : GM} {tc : Rho → M Bool} {te : Rho → M Dt} {ρ0 : Rho} {l : List Nat} (f : Nat → Option Dt) (h : ∀ c ∈ l, stC g tc te ρ0 (.str [c]) = .ok (f c)) : comM g tc te ρ0 (sgD l) = .ok (l.filterMap f) := com_map (fun c => .str [c]) f l h
theorem fm_if {α β : Type} (p : α → Bool) (e : α → β) : ∀ l : List α, (l.filterMap fun a => if p a = true then some (e a) else none) = (l.filter p).map e
  | [] => rfl
  | a :: l => by
    rw [List.filterMap_cons, List.filter_cons]
    cases h : p a <;> simp [h, fm_if p e l]
theorem fm_some {α β : Type} (e : α → β) : ∀ l : List α, (l.filterMap fun a => some (e a)) = l.map e
  | [] => rfl
  | a :: l => by rw [List.filterMap_cons, List.map_cons, fm_some e l]
/-! ### changes, rises -/
def lv (l : List Nat) (i : Nat) : Nat := l.getD i 0
theorem at_lv {l : List Nat} {i : Nat} (h : i < l.length) : atZ l (i : Int) = some (lv l i) := by
  refine atZ_nat ?_
  simp [lv, h]
theorem at_lvI {l : List Nat} {k : Int} {i : Nat} (e : k = i) (h : i < l.length) : atZ l k = some (lv l i) := by rw [e]; exact at_lv h
/-! ### sampled, held -/
def up (l : List Nat) (i : Nat) : Bool := decide (lv l i = 48) && decide (lv l (i + 1) = 49)
theorem bools_map {α : Type} (f : α → Bool) : ∀ l : List α, bools (l.map fun a => Dt.bl (f a)) = some (l.map f)
  | [] => rfl
  | a :: l => by simp [bools, bools_map f l]
theorem one_len {ls : List (List Nat)} (hl : ls.length ≤ 1000) : F_of_one_length [.lst (ls.map Dt.str)] = .ok (.bl (ls.all fun l => decide (l.length = (ls.headD []).length))) := by
  unfold F_of_one_length B_of_one_length
  exists ev
  simp only [kCo]
  rw [com_map Dt.str (fun l => some (.bl (decide (l.length = (ls.headD []).length))))]
  · rw [fm_some, calm_ok, bd_ok, szL_ok (by simp; omega)]
    exists ev
    rw [bools_map]
    exists ev
    rw [List.all_map]
    rfl
  · intro l hm
    have a0 : atZ (ls.map Dt.str) 0 = some (.str (ls.headD [])) := by
      cases ls with
      | nil => cases hm
      | cons x xs => exact atZ_nat (n := 0) rfl
    exists evw, c_st, c_x1, startR, a0, c_x2t, c_some
    have e : decide (((l.length : Nat) : Int) = (((ls.headD []).length : Nat) : Int)) = decide (l.length = (ls.headD []).length) := by
      exact decide_eq_decide.mpr ⟨fun z => by omega, fun z => by omega⟩
    rw [e]
theorem unlike_ok {ls : List (List Nat)} (hl : ls.length ≤ 1000) (h : ∀ l ∈ ls, l.length = (ls.headD []).length) : F_refuse_unlike [.lst (ls.map Dt.str)] = .ok .non := by
  unfold F_refuse_unlike B_refuse_unlike
  exists ev
  rw [one_len hl]
  have : (ls.all fun l => decide (l.length = (ls.headD []).length)) = true := by
    rw [List.all_eq_true]
    intro l hm
    simpa using h l hm
  rw [this]
  exists ev
theorem unlike_two {a b : List Nat} (h : a.length = b.length) : F_refuse_unlike [.lst [.str a, .str b]] = .ok .non := unlike_ok (ls := [a, b]) (by simp) (by simp [h])
theorem strs_one {α : Type} (f : α → Nat) : ∀ l : List α, strsM (l.map fun i => Dt.str [f i]) = some (l.map fun i => [f i])
  | [] => rfl
  | a :: l => by simp [strsM, strs_one f l]
theorem flat_one {α : Type} (f : α → Nat) : ∀ l : List α, (l.map fun i => [f i]).flatten = l.map f
  | [] => rfl
  | a :: l => by simp [flat_one f l]
/-- how many rises there are up to the tick ahead of i -/
def cn (l : List Nat) (i : Nat) : Nat := ((List.range (i - 1)).filter (up l)).length
/-- what is held at tick t -/
def hN (w b : List Nat) (c : Nat) : Nat → Nat
  | 0 => c
  | t + 1 => if up b t = true then lv w t else hN w b c t
def hL (w b : List Nat) (c : Nat) : List Nat := (List.range b.length).map (hN w b c)
/-! ### counted -/
theorem dep_strL {α : Type} (f : α → List Nat) : ∀ l : List α, deps (l.map fun a => Dt.str (f a)) = 0
  | [] => rfl
  | a :: l => by simp only [List.map_cons, deps, dep, dep_strL f l]; rfl
theorem take_min {α : Type} (l : List α) (j : Nat) : l.take (min j l.length) = l.take j := by
  by_cases h : j ≤ l.length
  · rw [Nat.min_eq_left h]
  · rw [Nat.min_eq_right (by omega), List.take_of_length_le (Nat.le_refl _), List.take_of_length_le (by omega)]
theorem cutZ_to {α : Type} (l : List α) {k : Int} {j : Nat} (e : k = j) : cutZ l none (some k) = l.take j := by
  subst e
  unfold cutZ
  simp only [sIz]
  rw [if_neg (by omega), Nat.sub_zero, List.drop_zero, Int.toNat_natCast, take_min]
theorem cutZ_from {α : Type} (l : List α) {k : Int} {j : Nat} (e : k = j) : cutZ l (some k) none = l.drop j := by
  subst e
  unfold cutZ
  simp only [sIz]
  rw [if_neg (by omega), Int.toNat_natCast]
  by_cases h : j ≤ l.length
  · rw [Nat.min_eq_left h]
    exact List.take_of_length_le (by simp)
  · rw [Nat.min_eq_right (by omega)]
    simp
    omega
theorem cutZ_mid {α : Type} (l : List α) {k k' : Int} {i j : Nat} (e : k = i) (e' : k' = j) (h : j ≤ l.length) : cutZ l (some k) (some k') = (l.drop i).take (j - i) := by
  subst e e'
  unfold cutZ
  simp only [sIz]
  rw [if_neg (by omega), if_neg (by omega), Int.toNat_natCast, Int.toNat_natCast, Nat.min_eq_left h]
  by_cases hi : i ≤ l.length
  · rw [Nat.min_eq_left hi]
  · rw [Nat.min_eq_right (by omega), List.drop_of_length_le (Nat.le_refl _), List.drop_of_length_le (by omega)]
    simp
end Pg

set_option Elab.async false
set_option linter.all false
namespace L2
/-- d[k] of a dict of texts -/
def dgT (kvs : List (List Nat × List Nat)) : Dt → M Dt := dgetM (kvs.map fun q => (q.1, Dt.str q.2))
end L2

set_option Elab.async false
set_option linter.all false
namespace L2
end L2

set_option Elab.async false
set_option linter.all false
namespace L2
end L2

set_option Elab.async false
set_option linter.all false
namespace L2
def oShl : Dt → Dt → M Dt
  | .int a, .int b => if 0 ≤ b ∧ b ≤ 1000 ∧ a.natAbs < 2 ^ 64 then .ok (.int (a * 2 ^ b.toNat)) else .bad
  | _, _ => .bad
def intsD : List Dt → Option (List Int)
  | [] => some []
  | .int i :: r => (intsD r).map (i :: ·)
  | _ => none
def sumR : Option (List Int) → M Dt
  | some ns => if ns.length ≤ 1000 ∧ ns.all (fun n => decide (-1000000 ≤ n) && decide (n ≤ 1000000)) = true then .ok (.int ns.sum) else .bad
  | none => .bad
/-- sum(x) of numbers -/
def bSum : List Dt → M Dt
  | [.lst ds] => sumR (intsD ds)
  | _ => .bad
def gtI (a b : Int) : Int := if b > a then b else a
def maxR : Option (List Int) → M Dt
  | some (p :: r) => .ok (.int (r.foldl gtI p))
  | _ => .bad
/-- max(x, default=d) of numbers that are there -/
def maxDM (l _d : Dt) : M Dt := match l with
  | .lst ds => maxR (intsD ds)
  | _ => .bad
end L2

set_option Elab.async false
set_option linter.all false
namespace L2
end L2

set_option Elab.async false
set_option linter.all false
namespace L2
/-! while, items of an own list -/
end L2

set_option Elab.async false
set_option linter.all false
namespace L2
def lcM (l : List Nat) : Option (List (List Nat)) → M Dt
  | some ls => .ok (.int (ls.count l : Nat))
  | none => .bad
def lcA (ds : List Dt) : List Dt → M Dt
  | [.str l] => lcM l (strsM ds)
  | _ => .bad
def mLCnt : Sel
  | .lst ds => some (lcA ds)
  | _ => none
end L2
namespace L2
end L2

set_option Elab.async false
set_option linter.all false
namespace L2
end L2

set_option Elab.async false
set_option linter.all false
namespace L2
end L2

set_option Elab.async false
set_option linter.all false
namespace L2
/-! a loop that a refusal may leave -/
end L2

set_option Elab.async false
set_option linter.all false
namespace L2
/-- texts in their order -/
def insT (x : List Nat) : List (List Nat) → List (List Nat)
  | [] => [x]
  | y :: l => if y < x then y :: insT x l else x :: y :: l
def sortT : List (List Nat) → List (List Nat)
  | [] => []
  | x :: l => insT x (sortT l)
def sortSM : Option (List (List Nat)) → M Dt
  | some ls => .ok (.lst ((sortT ls.eraseDups).map Dt.str))
  | none => .bad
/-- sorted(set(x)) of at most 60 texts -/
def oSortSet : Dt → M Dt
  | .lst ds => if ds.length ≤ 60 then sortSM (strsM ds) else .bad
  | _ => .bad
def sortLM : Option (List (List Nat)) → M Dt
  | some ls => .ok (.lst ((sortT ls).map Dt.str))
  | none => .bad
/-- sorted(x) of at most 60 texts -/
def oSort : Dt → M Dt
  | .lst ds => if ds.length ≤ 60 then sortLM (strsM ds) else .bad
  | _ => .bad
end L2

set_option Elab.async false
set_option linter.all false
namespace L2
theorem insT_perm (x : List Nat) : ∀ l, (insT x l).Perm (x :: l)
  | [] => .refl _
  | y :: l => by
    unfold insT
    split
    · exact ((insT_perm x l).cons y).trans (.swap ..)
    · exact .refl _
theorem sortT_perm : ∀ l, (sortT l).Perm l
  | [] => .refl _
  | x :: l => (insT_perm x _).trans ((sortT_perm l).cons x)
abbrev LeT (a b : List Nat) : Prop := ¬ b < a
theorem leT_trans {a b c : List Nat} (h1 : LeT a b) (h2 : LeT b c) : LeT a c := by
  intro z
  by_cases y : b < a
  · exact h1 y
  · by_cases x : a = b
    · subst x; exact h2 z
    · have hab : a < b := by
        rcases Decidable.em (a < b) with q | q
        · exact q
        · exact absurd (List.le_antisymm (List.not_lt.mp y) (List.not_lt.mp q)) x
      exact h2 (List.lt_trans z hab)
theorem insT_sort (x : List Nat) : ∀ l : List (List Nat), l.Pairwise LeT → (insT x l).Pairwise LeT
  | [], _ => List.pairwise_singleton ..
  | y :: l, h => by
    obtain ⟨h1, h2⟩ := List.pairwise_cons.mp h
    unfold insT
    split
    · rename_i hyx
      refine List.pairwise_cons.mpr ⟨fun z hz => ?_, insT_sort x l h2⟩
      rcases List.mem_cons.mp ((insT_perm x l).mem_iff.mp hz) with rfl | hz
      · exact fun q => List.lt_irrefl _ (List.lt_trans hyx q)
      · exact h1 z hz
    · rename_i hyx
      refine List.pairwise_cons.mpr ⟨fun z hz => ?_, h⟩
      rcases List.mem_cons.mp hz with rfl | hz
      · exact hyx
      · exact leT_trans hyx (h1 z hz)
theorem sortT_sort : ∀ l : List (List Nat), (sortT l).Pairwise LeT
  | [] => .nil
  | x :: l => insT_sort x _ (sortT_sort l)
theorem sort_one : ∀ {a b : List (List Nat)}, a.Pairwise LeT → b.Pairwise LeT → a.Perm b → a = b
  | [], b, _, _, p => (List.nil_perm.mp p).symm
  | x :: a, [], _, _, p => by cases (List.perm_nil.mp p)
  | x :: a, y :: b, h1, h2, p => by
    obtain ⟨a1, a2⟩ := List.pairwise_cons.mp h1
    obtain ⟨b1, b2⟩ := List.pairwise_cons.mp h2
    have e : x = y := by
      have hx : x ∈ y :: b := p.mem_iff.mp List.mem_cons_self
      have hy : y ∈ x :: a := p.mem_iff.mpr List.mem_cons_self
      rcases List.mem_cons.mp hx with z | z
      · exact z
      · rcases List.mem_cons.mp hy with w | w
        · exact w.symm
        · have q1 := b1 x z
          have q2 := a1 y w
          exact List.le_antisymm (List.not_lt.mp q2) (List.not_lt.mp q1)
    subst e
    rw [sort_one a2 b2 (List.perm_cons x |>.mp p)]
theorem sort_same {a b : List (List Nat)} (h : a.Perm b) : sortT a = sortT b := sort_one (sortT_sort a) (sortT_sort b) ((sortT_perm a).trans (h.trans (sortT_perm b).symm))
end L2

set_option Elab.async false
set_option linter.all false
namespace L2
/-- what a zip may walk: a list, a text, a tuple -/
def sqT : Dt → M (List Dt)
  | .lst l => .ok l
  | .str l => .ok (sgD l)
  | .tup l => .ok l
  | _ => .bad
def zip2T : List Dt → M (List Dt)
  | [x, y] => (sqT x).bd fun a => (sqT y).bd fun b => .ok (zipD a b)
  | _ => .bad
end L2

set_option Elab.async false
set_option linter.all false
set_option maxRecDepth 100000
/-! Waves moved, stretches. -/
namespace Pg
open L2

/-! ### one step each -/
section
variable {x y z : Dt} {ds : List Dt} {l : List Nat} {ρ : Rho} {s : SM} {cs : List Nat} {i k : Nat}
def kN1 (y : Dt) (a : List Dt) : M (List Dt) := (sqM y).bd (kZ2 a)
theorem a_zn : zip2N [x, y] = (sqM x).bd (kN1 y) := .trans rfl rfl
theorem a_kN1 : kN1 y ds = (sqM y).bd (kZ2 ds) := .trans rfl rfl
theorem a_sqS : sqM (.str l) = .ok (sgD l) := .trans rfl rfl
theorem a_sqL : sqM (.lst ds) = .ok ds := .trans rfl rfl
end
theorem e1 (a b : Nat) : ([a] = [b]) = (a = b) := by simp
section
variable {cs : List Nat} {k i c : Nat} {ρ : Rho} {s : SM}
end
/-! ### lengths -/
/-! ### stretches told -/
theorem flat_rep {c n : Nat} : (List.replicate n [c]).flatten = List.replicate n c := by
  induction n with
  | zero => rfl
  | succ n ih => rw [List.replicate_succ, List.flatten_cons, ih, List.replicate_succ]; rfl
theorem turned_is {l : List Nat} : F_turned_about [.str l] = .ok (.str l.reverse) := by
  unfold F_turned_about B_turned_about
  exists ev
/-! ### parts -/
theorem lv_all (l : List Nat) : (List.range l.length).map (lv l) = l := by
  apply List.ext_getElem?
  intro i
  unfold lv
  by_cases h : i < l.length
  · simp [h]
  · simp [h]
/-! ### stretches -/
/-! ### slowed stretches -/
end Pg

set_option Elab.async false
set_option linter.all false
set_option maxRecDepth 100000
/-! Waves moved, stretches. -/
namespace Pg
open L2

theorem for_inv {g : GM} {b : SM} : ∀ (ds : List Dt) (P : Nat → Rho → Prop) (ρ : Rho), P 0 ρ → (∀ j d ρ, ds[j]? = some d → P j ρ → ∃ ρ', ((g d ρ).calm.bd fun ρ1 => (b ρ1).calm) = .ok (.nx ρ') ∧ P (j + 1) ρ') → ∃ ρ', forM' g b ds ρ = .ok (.nx ρ') ∧ P ds.length ρ'
  | [], P, ρ, h0, _ => ⟨ρ, rfl, h0⟩
  | d :: ds, P, ρ, h0, h => by
    obtain ⟨ρ1, e1, p1⟩ := h 0 d ρ rfl h0
    obtain ⟨ρ2, e2, p2⟩ := for_inv ds (fun i => P (i + 1)) ρ1 p1 fun j e ρ he hp => h (j + 1) e ρ (by simpa using he) hp
    refine ⟨ρ2, ?_, p2⟩
    rw [a_forS]
    cases hg : g d ρ with
    | ok ρ' =>
      rw [hg] at e1
      simp only [calm_ok, bd_ok] at e1 ⊢
      rw [a_kF1, e1]
      exact e2
    | ex c => rw [hg] at e1; cases e1
    | bad => rw [hg] at e1; cases e1
/-! ### what unknown levels can be -/
theorem strs_all : ∀ l : List (List Nat), strsM (l.map Dt.str) = some l
  | [] => rfl
  | a :: l => by simp [strsM, strs_all l]
/-! ### the same, as the laws make it -/
/-! ### whether a wave can be another one -/
theorem zip_sg {w o : List Nat} (h : w.length = o.length) : zipD (sgD w) (sgD o) = (List.range w.length).map fun i => Dt.tup [.str [lv w i], .str [lv o i]] := by
  apply List.ext_getElem?
  intro i
  by_cases hi : i < w.length
  · have ho : i < o.length := by omega
    simp [zipD, sgD, lv, hi, ho, List.getElem?_zip_eq_some]
  · rw [List.getElem?_eq_none (by simp [zipD, sgD]; omega), List.getElem?_eq_none (by simp; omega)]
/-! ### waves with few unknown levels -/
def Lv3 (l : List Nat) : Prop := ∀ c ∈ l, c = 48 ∨ c = 49 ∨ c = 120
end Pg

set_option Elab.async false
set_option linter.all false
set_option maxRecDepth 100000
/-! Waves moved, stretches. -/
namespace Pg
open L2

/-! ### gates -/
def bothN (c d : Nat) : Nat := if c = 48 ∨ d = 48 then 48 else if c = 120 ∨ d = 120 then 120 else 49
def eithN (c d : Nat) : Nat := if c = 49 ∨ d = 49 then 49 else if c = 120 ∨ d = 120 then 120 else 48
def unlN (c d : Nat) : Nat := if c = 120 ∨ d = 120 then 120 else if c = d then 48 else 49
def comN (c d : Nat) : Nat := if c = d then c else 120
theorem n48 : ((120 : Nat) = 48) = False := by simp
theorem n49 : ((120 : Nat) = 49) = False := by simp
theorem both_at_is (c d : Nat) : F_both_at [.str [c], .str [d]] = .ok (.str [bothN c d]) := by
  unfold F_both_at B_both_at bothN
  by_cases h1 : c = 48 <;> by_cases h2 : d = 48 <;> by_cases h3 : c = 120 <;> by_cases h4 : d = 120 <;> first | omega | (simp only [h1, h2, h3, h4, n48, n49, true_or, or_true, or_self, or_false, false_or, if_true, if_false]; exists evw, e1, h1, h2, h3, h4, n48, n49)
theorem either_at_is (c d : Nat) : F_either_at [.str [c], .str [d]] = .ok (.str [eithN c d]) := by
  unfold F_either_at B_either_at eithN
  by_cases h1 : c = 49 <;> by_cases h2 : d = 49 <;> by_cases h3 : c = 120 <;> by_cases h4 : d = 120 <;> first | omega | (simp only [h1, h2, h3, h4, n48, n49, true_or, or_true, or_self, or_false, false_or, if_true, if_false]; exists evw, e1, h1, h2, h3, h4, n48, n49)
theorem unlike_at_is (c d : Nat) : F_unlike_at [.str [c], .str [d]] = .ok (.str [unlN c d]) := by
  unfold F_unlike_at B_unlike_at unlN
  by_cases h3 : c = 120 <;> by_cases h4 : d = 120 <;> by_cases h5 : c = d <;> first | omega | (simp only [h3, h4, h5, true_or, or_true, or_self, if_true, if_false]; exists evw, e1, h3, h4, h5)
def gm (g : Nat → Nat → Nat) (a b : List Nat) : List Nat := (List.range a.length).map fun i => g (lv a i) (lv b i)
theorem gm_len (g : Nat → Nat → Nat) (a b : List Nat) : (gm g a b).length = a.length := by simp [gm]
theorem gm_lv {g : Nat → Nat → Nat} {a b : List Nat} {i : Nat} (h : i < a.length) : lv (gm g a b) i = g (lv a i) (lv b i) := by simp [gm, lv, h]
theorem gateC {F : List Dt → M Dt} {g : Nat → Nat → Nat} (hF : ∀ c d, F [.str [c], .str [d]] = .ok (.str [g c d])) {a b : List Nat} {ρ : Rho} (h : a.length = b.length) (ha : a.length ≤ 1000) : kCo 2 [] (gTp 2 (gZc (gNm 0) (gZc (gNm 1) gZn))) tYs (pCall F (aCons (getV 0) (aCons (getV 1) aNil))) ρ (zipD (sgD a) (sgD b)) = .ok (.lst ((List.range a.length).map fun i => .str [g (lv a i) (lv b i)])) := by
  rw [zip_sg h]
  simp only [kCo]
  rw [com_map (fun (i : Nat) => Dt.tup [.str [lv a i], .str [lv b i]]) (fun i => some (.str [g (lv a i) (lv b i)]))]
  · rw [fm_some, calm_ok, bd_ok, szL_ok (by simp; omega)]
  · intro i hi
    exists evw, c_st, c_x1, startR, c_x2t, hF, c_some
theorem both_is {a b : List Nat} (h : a.length = b.length) (ha : a.length ≤ 1000) : F_both [.str a, .str b] = .ok (.str (gm bothN a b)) := by
  unfold F_both B_both
  exists ev
  rw [szL_ok (by simp)]
  exists evw, unlike_two h, a_zn, a_kN1, a_sqS
  rw [gateC both_at_is h ha]
  exists evw, strs_one, flat_one
  rw [szS_ok (by simp; omega)]
  exists ev
  rfl
theorem either_is {a b : List Nat} (h : a.length = b.length) (ha : a.length ≤ 1000) : F_either [.str a, .str b] = .ok (.str (gm eithN a b)) := by
  unfold F_either B_either
  exists ev
  rw [szL_ok (by simp)]
  exists evw, unlike_two h, a_zn, a_kN1, a_sqS
  rw [gateC either_at_is h ha]
  exists evw, strs_one, flat_one
  rw [szS_ok (by simp; omega)]
  exists ev
  rfl
theorem unlike_is {a b : List Nat} (h : a.length = b.length) (ha : a.length ≤ 1000) : F_unlike [.str a, .str b] = .ok (.str (gm unlN a b)) := by
  unfold F_unlike B_unlike
  exists ev
  rw [szL_ok (by simp)]
  exists evw, unlike_two h, a_zn, a_kN1, a_sqS
  rw [gateC unlike_at_is h ha]
  exists evw, strs_one, flat_one
  rw [szS_ok (by simp; omega)]
  exists ev
  rfl
def kM2 (z : Dt) (a b : List Dt) : M (List Dt) := (sqM z).bd (kY3 a b)
def kM1 (y z : Dt) (a : List Dt) : M (List Dt) := (sqM y).bd (kM2 z a)
theorem a_zn3 {x y z : Dt} : zip3N [x, y, z] = (sqM x).bd (kM1 y z) := .trans rfl rfl
theorem a_kM1 {y z : Dt} {ds : List Dt} : kM1 y z ds = (sqM y).bd (kM2 z ds) := .trans rfl rfl
theorem a_kM2 {z : Dt} {ds es : List Dt} : kM2 z ds es = (sqM z).bd (kY3 ds es) := .trans rfl rfl
end Pg

set_option Elab.async false
set_option linter.all false
set_option maxRecDepth 100000
/-! Waves moved, stretches. -/
namespace Pg
open L2

/-! ### several tellings of one wave -/
theorem gateE {te : Rho → M Dt} {g : Nat → Nat → Nat} (hF : ∀ c d : Nat, te [.val (.str [c]), .val (.str [d])] = .ok (.str [g c d])) {a b : List Nat} {ρ : Rho} (h : a.length = b.length) (ha : a.length ≤ 1000) : kCo 2 [] (gTp 2 (gZc (gNm 0) (gZc (gNm 1) gZn))) tYs te ρ (zipD (sgD a) (sgD b)) = .ok (.lst ((List.range a.length).map fun i => .str [g (lv a i) (lv b i)])) := by
  rw [zip_sg h]
  simp only [kCo]
  rw [com_map (fun (i : Nat) => Dt.tup [.str [lv a i], .str [lv b i]]) (fun i => some (.str [g (lv a i) (lv b i)]))]
  · rw [fm_some, calm_ok, bd_ok, szL_ok (by simp; omega)]
  · intro i hi
    exists evw, c_st, c_x1, startR, c_x2t, hF, c_some
theorem common_is {a b : List Nat} (h : a.length = b.length) (ha : a.length ≤ 1000) : F_in_common [.str a, .str b] = .ok (.str (gm comN a b)) := by
  unfold F_in_common B_in_common
  exists ev
  rw [szL_ok (by simp)]
  exists evw, unlike_two h, a_zn, a_kN1, a_sqS
  rw [gateE (g := comN) (fun c d => by
    unfold comN
    by_cases q : c = d
    · subst q
      rw [if_pos rfl]
      exists evw, e1
    · have e : (c = d) = False := by simpa using q
      rw [if_neg q]
      exists evw, e1, e) h ha]
  exists evw, strs_one, flat_one
  rw [szS_ok (by simp; omega)]
  exists ev
  rfl
/-! ### what they say together -/
theorem lv_ext {a b : List Nat} (hl : a.length = b.length) (h : ∀ i, i < a.length → lv a i = lv b i) : a = b := by
  rw [← lv_all a, ← lv_all b, ← hl]
  exact List.map_congr_left fun i hi => h i (by simpa using hi)
/-! ### found -/
end Pg

set_option Elab.async false
set_option linter.all false
set_option maxRecDepth 100000
namespace K98
open L2 Pg
def B_value_at : SM := (sSeq (sAsg (pComp 1 [1] (iOf (getV 0)) (gNm 0) tYs (p2 oIx (getV 0) (getV 1))) (gNm 2))
  (sSeq (sIf (tOf (p2 oIn (pC (.str [120])) (getV 2))) (sRet (pC .non)) sSkip)
  (sRet (pCall bSum (aCons (pComp 2 [] (iBy enumN (aCons (getV 2) aNil)) (gTp 2 (gZc (gNm 0) (gZc (gNm 1) gZn))) tYs (p2 oShl (pCall bIntD (aCons (getV 1) aNil)) (getV 0))) aNil)))))
def F_value_at : List Dt → M Dt := fnM 2 1 B_value_at
def B_common_length : SM := (sSeq (sDrop (pCall F_refuse_unlike (aCons (getV 0) aNil)))
  (sRet (p2 maxDM (pComp 1 [] (iOf (getV 0)) (gNm 0) tYs (pCall bLen (aCons (getV 0) aNil))) (pC (.int 0)))))
def F_common_length : List Dt → M Dt := fnM 1 0 B_common_length
def B_values_of : SM := (sRet (pComp 1 [0] (iBy rng1M (aCons (pCall F_common_length (aCons (getV 0) aNil)) aNil)) (gNm 0) tYs (pCall F_value_at (aCons (getV 1) (aCons (getV 0) aNil)))))
def F_values_of : List Dt → M Dt := fnM 1 0 B_values_of
def B_first_ticks_behind : SM := (sRet (p2 oAdd (pSlice (getV 0) (pPart (some (getV 1))) (pPart none)) (pSlice (getV 0) (pPart none) (pPart (some (getV 1))))))
def F_first_ticks_behind : List Dt → M Dt := fnM 2 0 B_first_ticks_behind
def B_rolled : SM := (sRet (pCall F_first_ticks_behind (aCons (getV 0) (aCons (p2 oMod (p1 oNeg (getV 1)) (pCall bMax (aCons (pCall bLen (aCons (getV 0) aNil)) (aCons (pC (.int 1)) aNil)))) aNil))))
def F_rolled : List Dt → M Dt := fnM 2 0 B_rolled
def B_no : SM := (sRet (pMeth mJoin (pC (.str [])) (aCons (pComp 1 [] (iOf (getV 0)) (gNm 0) tYs (p1 (dgT [([48], [49]), ([49], [48]), ([120], [120])]) (getV 0))) aNil)))
def F_no : List Dt → M Dt := fnM 1 0 B_no
def B_windows : SM := (sSeq (sIf (tNt (tOf (pChain oLe oLe (pC (.int 1)) (getV 1) (pCall bLen (aCons (getV 0) aNil))))) (sRz 5 (uInt (getV 1))) sSkip)
  (sRet (pComp 1 [0, 1] (iBy rng1M (aCons (p2 oAdd (p2 oSub (pCall bLen (aCons (getV 0) aNil)) (getV 1)) (pC (.int 1))) aNil)) (gNm 0) tYs (pSlice (getV 1) (pPart (some (getV 0))) (pPart (some (p2 oAdd (getV 0) (getV 2))))))))
def F_windows : List Dt → M Dt := fnM 2 0 B_windows
def B_distance : SM := (sSeq (sDrop (pCall F_refuse_unlike (aCons (pLst (aCons (getV 0) (aCons (getV 1) aNil))) aNil)))
  (sRet (pCall bLen (aCons (pComp 1 [0, 1] (iBy rng1M (aCons (pCall bLen (aCons (getV 0) aNil)) aNil)) (gNm 0) (tOf (p2 oNe (p2 oIx (getV 1) (getV 0)) (p2 oIx (getV 2) (getV 0)))) (getV 0)) aNil))))
def F_distance : List Dt → M Dt := fnM 2 0 B_distance
def B_all_high : SM := (sRet (pComp 1 [0] (iBy rng1M (aCons (pCall F_common_length (aCons (getV 0) aNil)) aNil)) (gNm 0) (tOf (pCall bAll (aCons (pComp 1 [0] (iOf (getV 1)) (gNm 0) tYs (p2 oEq (p2 oIx (getV 0) (getV 1)) (pC (.str [49])))) aNil))) (getV 0)))
def F_all_high : List Dt → M Dt := fnM 1 0 B_all_high
def B_window_counts : SM := (sSeq (sAsg (pCall F_windows (aCons (getV 0) (aCons (getV 1) aNil))) (gNm 2))
  (sRet (pComp 1 [2] (iOf (p1 oSortSet (getV 2))) (gNm 0) tYs (pTup (aCons (getV 0) (aCons (pMeth mLCnt (getV 1) (aCons (getV 0) aNil)) aNil))))))
def F_window_counts : List Dt → M Dt := fnM 2 1 B_window_counts
def B_tally : SM := (sRet (pTup (aCons (pMeth mCountS (getV 0) (aCons (pC (.str [48])) aNil)) (aCons (pMeth mCountS (getV 0) (aCons (pC (.str [49])) aNil)) (aCons (pMeth mCountS (getV 0) (aCons (pC (.str [120])) aNil)) aNil)))))
def F_tally : List Dt → M Dt := fnM 1 0 B_tally
def L_law_0 : SM := (sIf (tOr' (tOf (p2 oNe (pCall F_both (aCons (getV 10) (aCons (getV 11) aNil))) (getV 12))) (tOf (p2 oNe (pComp 2 [] (iBy zip2T (aCons (pCall F_tally (aCons (getV 10) aNil)) (aCons (pCall F_tally (aCons (getV 2) aNil)) aNil))) (gTp 2 (gZc (gNm 0) (gZc (gNm 1) gZn))) (tOf (p2 oGt (getV 0) (getV 1))) (pC (.int 1))) (pLst aNil)))) (sRet (pC (.bl false))) sSkip)
def S_law_17 : SM := (sRet (pAn (p2 oEq (pCall bSum (aCons (pComp 1 [] (iOf (pCall F_window_counts (aCons (getV 2) (aCons (getV 5) aNil)))) (gNm 0) tYs (p2 oIx (getV 0) (pC (.int 1)))) aNil)) (p2 oAdd (p2 oSub (getV 1) (getV 5)) (pC (.int 1)))) (p2 oLe (pCall F_distance (aCons (getV 2) (aCons (pCall F_no (aCons (getV 2) aNil)) aNil))) (getV 1))))
def S_law_16 : SM := (sSeq (sIf (tOf (p2 oNe (pCall F_all_high (aCons (pLst (aCons (getV 2) (aCons (getV 3) aNil))) aNil)) (pComp 1 [8] (iBy rng1M (aCons (getV 1) aNil)) (gNm 0) (tOf (p2 oEq (p2 oIx (p2 oIx (getV 1) (pC (.int 0))) (getV 0)) (pC (.str [49])))) (getV 0)))) (sRet (pC (.bl false))) sSkip) S_law_17)
def S_law_15 : SM := (sSeq (sIf (tOf (p2 oNe (pCall F_values_of (aCons (pLst (aCons (p2 oIx (getV 6) (pC (.int 0))) (aCons (p2 oIx (getV 6) (pC (.int 1))) aNil))) aNil)) (pComp 1 [1, 4, 13] (iBy rng1M (aCons (getV 1) aNil)) (gNm 0) tYs (p2 oIx (getV 3) (p2 oMod (p2 oSub (getV 0) (getV 2)) (getV 1)))))) (sRet (pC (.bl false))) sSkip) S_law_16)
def S_law_14 : SM := (sSeq (sAsg (pCall F_values_of (aCons (pLst (aCons (getV 2) (aCons (getV 3) aNil))) aNil)) (gNm 13)) S_law_15)
def S_law_13 : SM := (sSeq (sIf (tOf (p2 oNe (p1 oSort (pCall F_windows (aCons (pCall F_turned_about (aCons (getV 2) aNil)) (aCons (getV 5) aNil)))) (p1 oSort (pComp 1 [] (iOf (pCall F_windows (aCons (getV 2) (aCons (getV 5) aNil)))) (gNm 0) tYs (pCall F_turned_about (aCons (getV 0) aNil)))))) (sRet (pC (.bl false))) sSkip) S_law_14)
def S_law_12 : SM := (sSeq (sIf (tOf (p2 oNe (pCall bSum (aCons (pComp 2 [] (iBy zip2N (aCons (pCall F_windows (aCons (getV 2) (aCons (pC (.int 1)) aNil))) (aCons (pCall F_windows (aCons (getV 3) (aCons (pC (.int 1)) aNil))) aNil))) (gTp 2 (gZc (gNm 0) (gZc (gNm 1) gZn))) tYs (pCall F_distance (aCons (getV 0) (aCons (getV 1) aNil)))) aNil)) (pCall F_distance (aCons (getV 2) (aCons (getV 3) aNil))))) (sRet (pC (.bl false))) sSkip) S_law_13)
def S_law_11 : SM := (sSeq (sForC (iBy zip3N (aCons (p2 oIx (getV 9) (pC (.int 0))) (aCons (p2 oIx (getV 9) (pC (.int 1))) (aCons (pCall F_windows (aCons (p2 oIx (getV 8) (pC (.int 0))) (aCons (getV 5) aNil))) aNil)))) (gTp 3 (gZc (gNm 10) (gZc (gNm 11) (gZc (gNm 12) gZn)))) L_law_0) S_law_12)
def S_law_10 : SM := (sSeq (sAsg (pTup (aCons (pCall F_windows (aCons (getV 2) (aCons (getV 5) aNil))) (aCons (pCall F_windows (aCons (getV 3) (aCons (getV 5) aNil))) aNil))) (gNm 9)) S_law_11)
def S_law_9 : SM := (sSeq (sIf (tOf (p2 oNe (pCall F_turned_about (aCons (p2 oIx (getV 6) (pC (.int 0))) aNil)) (pCall F_rolled (aCons (p2 oIx (getV 7) (pC (.int 0))) (aCons (p2 oSub (pC (.int 0)) (getV 4)) aNil))))) (sRet (pC (.bl false))) sSkip) S_law_10)
def S_law_8 : SM := (sSeq (sIf (tOf (p2 oNe (pLst (aCons (pCall F_both (aCons (p2 oIx (getV 7) (pC (.int 0))) (aCons (p2 oIx (getV 7) (pC (.int 1))) aNil))) (aCons (pCall F_unlike (aCons (p2 oIx (getV 7) (pC (.int 0))) (aCons (p2 oIx (getV 7) (pC (.int 1))) aNil))) aNil))) (pLst (aCons (pCall F_turned_about (aCons (p2 oIx (getV 8) (pC (.int 0))) aNil)) (aCons (pCall F_turned_about (aCons (p2 oIx (getV 8) (pC (.int 2))) aNil)) aNil))))) (sRet (pC (.bl false))) sSkip) S_law_9)
def S_law_7 : SM := (sSeq (sIf (tOf (p2 oNe (pLst (aCons (pCall F_unlike (aCons (p2 oIx (getV 6) (pC (.int 0))) (aCons (p2 oIx (getV 6) (pC (.int 1))) aNil))) (aCons (pCall F_no (aCons (p2 oIx (getV 6) (pC (.int 0))) aNil)) aNil))) (pComp 1 [4] (iOf (pSlice (getV 8) (pPart (some (pC (.int 2)))) (pPart none))) (gNm 0) tYs (pCall F_rolled (aCons (getV 0) (aCons (getV 1) aNil)))))) (sRet (pC (.bl false))) sSkip) S_law_8)
def S_law_6 : SM := (sSeq (sIf (tOf (p2 oNe (pLst (aCons (pCall F_both (aCons (p2 oIx (getV 6) (pC (.int 0))) (aCons (p2 oIx (getV 6) (pC (.int 1))) aNil))) (aCons (pCall F_either (aCons (p2 oIx (getV 6) (pC (.int 0))) (aCons (p2 oIx (getV 6) (pC (.int 1))) aNil))) aNil))) (pComp 1 [4] (iOf (pSlice (getV 8) (pPart none) (pPart (some (pC (.int 2)))))) (gNm 0) tYs (pCall F_rolled (aCons (getV 0) (aCons (getV 1) aNil)))))) (sRet (pC (.bl false))) sSkip) S_law_7)
def S_law_5 : SM := (sSeq (sAsg (pLst (aCons (pCall F_both (aCons (getV 2) (aCons (getV 3) aNil))) (aCons (pCall F_either (aCons (getV 2) (aCons (getV 3) aNil))) (aCons (pCall F_unlike (aCons (getV 2) (aCons (getV 3) aNil))) (aCons (pCall F_no (aCons (getV 2) aNil)) aNil))))) (gNm 8)) S_law_6)
def S_law_4 : SM := (sSeq (sAsg (pTup (aCons (pCall F_turned_about (aCons (getV 2) aNil)) (aCons (pCall F_turned_about (aCons (getV 3) aNil)) aNil))) (gNm 7)) S_law_5)
def S_law_3 : SM := (sSeq (sAsg (pTup (aCons (pCall F_rolled (aCons (getV 2) (aCons (getV 4) aNil))) (aCons (pCall F_rolled (aCons (getV 3) (aCons (getV 4) aNil))) aNil))) (gNm 6)) S_law_4)
def S_law_2 : SM := (sSeq (sAsg (pTup (aCons (p2 oSub (pCall F_L_pick (aCons (getV 0) (aCons (pC (.int 1)) (aCons (pC (.int 41)) aNil)))) (pC (.int 20))) (aCons (p2 oAdd (pC (.int 1)) (pCall F_L_pick (aCons (getV 0) (aCons (pC (.int 2)) (aCons (getV 1) aNil))))) aNil))) (gTp 2 (gZc (gNm 4) (gZc (gNm 5) gZn)))) S_law_3)
def S_law_1 : SM := (sSeq (sPar 2 3 (aCons (pCall F_L_wave (aCons (getV 0) (aCons (pC (.int 10)) (aCons (getV 1) (aCons (pC (.str [48, 49, 120])) aNil))))) (aCons (pCall F_L_wave (aCons (getV 0) (aCons (pC (.int 60)) (aCons (getV 1) (aCons (pC (.str [48, 49, 120])) aNil))))) aNil))) S_law_2)
def B_law : SM := (sSeq (sAsg (p2 oAdd (pC (.int 1)) (pCall F_L_pick (aCons (getV 0) (aCons (pC (.int 0)) (aCons (pC (.int 12)) aNil))))) (gNm 1)) S_law_1)
def F_law : List Dt → M Dt := fnM 1 13 B_law
end K98

set_option Elab.async false
set_option linter.all false
set_option maxRecDepth 100000
namespace K98
open L2 Pg

theorem a_lc {ds : List Dt} {l : List Nat} : lcA ds [.str l] = lcM l (strsM ds) := .trans rfl rfl
theorem a_mlc {ds : List Dt} : mLCnt (.lst ds) = some (lcA ds) := .trans rfl rfl
theorem a_lcM {l : List Nat} {ls : List (List Nat)} : lcM l (some ls) = .ok (.int (ls.count l : Nat)) := .trans rfl rfl
def wnd (w : List Nat) (n : Nat) : List (List Nat) := (List.range (w.length - n + 1)).map fun i => (w.drop i).take n
theorem wnd_len (w : List Nat) (n : Nat) : (wnd w n).length = w.length - n + 1 := by simp [wnd]
theorem windows_is {w : List Nat} {n : Nat} (h1 : 1 ≤ n) (h2 : n ≤ w.length) (hw : w.length ≤ 1000) : F_windows [.str w, .int (n : Nat)] = .ok (.lst ((wnd w n).map Dt.str)) := by
  unfold F_windows B_windows
  have g1 : decide ((1 : Int) ≤ (n : Nat)) = true := decide_eq_true (by omega)
  have g2 : decide (((n : Nat) : Int) ≤ (w.length : Nat)) = true := decide_eq_true (by omega)
  exists evw, g1, g2
  rw [ck_of (by omega)]
  exists ev
  simp only [kCo]
  rw [com_rng (fun i => some (.str ((w.drop i).take n)))]
  · rw [fm_some, calm_ok, bd_ok, szL_ok (by simp; omega)]
    exists ev
    rw [show (((w.length : Nat) : Int) - ((n : Nat) : Int) + 1 - 0).toNat = w.length - n + 1 by omega]
    simp [wnd, Function.comp_def]
  · intro i hi
    have c := cutZ_mid w (k := 0 + (i : Nat)) (k' := 0 + (i : Nat) + (n : Nat)) (i := i) (j := i + n) (by omega) (by omega) (by omega)
    rw [show i + n - i = n by omega] at c
    exists evw, c_st, c_x1, startR, c_x2t, c
    rfl
def rot (a : List Nat) (k : Nat) : List Nat := a.drop k ++ a.take k
theorem rot_len {a : List Nat} {k : Nat} (h : k ≤ a.length) : (rot a k).length = a.length := by
  unfold rot
  simp
  omega
theorem behind_is {a : List Nat} {k : Nat} (h : k ≤ a.length) (ha : a.length ≤ 1000) : F_first_ticks_behind [.str a, .int (k : Nat)] = .ok (.str (rot a k)) := by
  unfold F_first_ticks_behind B_first_ticks_behind
  exists ev
  rw [cutZ_from _ (j := k) rfl, cutZ_to _ (j := k) rfl, szS_ok (by have := rot_len h; unfold rot at this; omega)]
  exists ev
  rfl
def rl (a : List Nat) (b : Int) : List Nat := rot a ((-b) % (a.length : Nat)).toNat
theorem md {b : Int} {n : Nat} (h : 1 ≤ n) : 0 ≤ b % (n : Nat) ∧ b % (n : Nat) < n := ⟨Int.emod_nonneg _ (by omega), Int.emod_lt_of_pos _ (by omega)⟩
theorem rl_len {a : List Nat} {b : Int} (h : 1 ≤ a.length) : (rl a b).length = a.length := by
  have := md (b := -b) h
  exact rot_len (by omega)
theorem rolled_is {a : List Nat} {b : Int} (h : 1 ≤ a.length) (ha : a.length ≤ 1000) : F_rolled [.str a, .int b] = .ok (.str (rl a b)) := by
  have m := md (b := -b) h
  have e : (-b) % (a.length : Nat) = ((((-b) % (a.length : Nat)).toNat : Nat) : Int) := by omega
  have hb := behind_is (a := a) (k := ((-b) % (a.length : Nat)).toNat) (by omega) ha
  rw [← e] at hb
  have mx : (if (1 : Int) > (a.length : Nat) then (1 : Int) else (a.length : Nat)) = (a.length : Nat) := if_neg (by omega)
  unfold F_rolled B_rolled
  exists evw, mx
  rw [ck_of (by omega)]
  exists evw, hb
  rfl
theorem rot_lv {a : List Nat} {k j : Nat} (h : k ≤ a.length) (hj : j < a.length) : lv (rot a k) j = lv a ((j + k) % a.length) := by
  unfold rot lv
  simp only [List.getD_eq_getElem?_getD]
  by_cases q : j < a.length - k
  · rw [List.getElem?_append_left (by simp; omega), List.getElem?_drop, Nat.mod_eq_of_lt (by omega), Nat.add_comm]
  · rw [List.getElem?_append_right (by simp; omega), List.length_drop, List.getElem?_take_of_lt (by omega)]
    rw [Nat.mod_eq_sub_mod (by omega), Nat.mod_eq_of_lt (by omega)]
    congr 2
    omega
/-- the level of a rolled wave at a tick -/
theorem rl_lv {a : List Nat} {b : Int} {j : Nat} (hj : j < a.length) : lv (rl a b) j = lv a ((((j : Nat) : Int) - b) % (a.length : Nat)).toNat := by
  have m := md (b := -b) (n := a.length) (by omega)
  unfold rl
  rw [rot_lv (by omega) hj]
  congr 1
  have e : (((j + ((-b) % (a.length : Nat)).toNat) % a.length : Nat) : Int) = (((j : Nat) : Int) - b) % (a.length : Nat) := by
    rw [Int.natCast_emod, Int.natCast_add, Int.toNat_of_nonneg m.1]
    rw [Int.sub_eq_add_neg]
    simp
  omega

theorem sortset_is {ps : List (List Nat)} (h : ps.length ≤ 60) : oSortSet (.lst (ps.map Dt.str)) = .ok (.lst ((sortT ps.eraseDups).map Dt.str)) := by
  show (if (ps.map Dt.str).length ≤ 60 then sortSM (strsM (ps.map Dt.str)) else .bad) = _
  rw [if_pos (by simpa using h), strs_all]
  rfl
def wct (ps : List (List Nat)) : List Dt := (sortT ps.eraseDups).map fun p => .tup [.str p, .int (ps.count p : Nat)]
theorem dup_le (ps : List (List Nat)) : ps.eraseDups.length ≤ ps.length := by
  generalize hn : ps.length = n
  induction n using Nat.strongRecOn generalizing ps with
  | _ n ih =>
    cases ps with
    | nil => simp
    | cons x l =>
      rw [List.eraseDups_cons]
      simp only [List.length_cons] at hn ⊢
      have h1 := List.length_filter_le (fun b => !b == x) l
      have := ih _ (by omega) (l.filter fun b => !b == x) rfl
      omega
theorem countsC {ps : List (List Nat)} {ρ : Rho} {x : Nat} (hx : ρ[x]? = some (.val (.lst (ps.map Dt.str)))) (h : ps.length ≤ 60) :
    kCo 1 [x] (gNm 0) tYs (pTup (aCons (getV 0) (aCons (pMeth mLCnt (getV 1) (aCons (getV 0) aNil)) aNil))) ρ ((sortT ps.eraseDups).map Dt.str) = .ok (.lst (wct ps)) := by
  have hl := dup_le ps
  have hs := (sortT_perm ps.eraseDups).length_eq
  simp only [kCo]
  rw [com_map Dt.str (fun p => some (.tup [.str p, .int (ps.count p : Nat)]))]
  · rw [fm_some, calm_ok, bd_ok, szL_ok (by simp; omega)]
    rfl
  · intro p hp
    exists evw, c_st, c_x1, startR, c_x2t, hx, a_mlc, a_lc, strs_all, a_lcM
    rfl
theorem counts_is {w : List Nat} {n : Nat} (h1 : 1 ≤ n) (h2 : n ≤ w.length) (hw : w.length ≤ 50) : F_window_counts [.str w, .int (n : Nat)] = .ok (.lst (wct (wnd w n))) := by
  have hl := wnd_len w n
  unfold F_window_counts B_window_counts
  exists evw, windows_is h1 h2 (by omega)
  exists evw, sortset_is (ps := wnd w n) (by omega)
  rw [countsC (ps := wnd w n) rfl (by omega)]
  exists ev
def tlD (W : List Nat) : Dt := .tup [.int (W.count 48 : Nat), .int (W.count 49 : Nat), .int (W.count 120 : Nat)]
theorem tally_is {W : List Nat} : F_tally [.str W] = .ok (tlD W) := by
  unfold F_tally B_tally
  exists ev
  rw [ck_of (by simp)]
  exists ev
  rfl
theorem wnd_one {w : List Nat} (h : 1 ≤ w.length) : wnd w 1 = w.map fun c => [c] := by
  unfold wnd
  rw [show w.length - 1 + 1 = w.length by omega]
  conv => rhs; rw [← lv_all w]
  rw [List.map_map]
  refine List.map_congr_left fun i hi => ?_
  have hi' : i < w.length := by simpa using hi
  show (w.drop i).take 1 = [lv w i]
  rw [List.drop_eq_getElem_cons hi', List.take_succ_cons, List.take_zero]
  simp [lv, hi']
abbrev nD (T : List Nat) : List Dt := T.map fun (t : Nat) => Dt.int (t : Nat)
theorem ints_map {α : Type} (f : α → Int) : ∀ l : List α, intsD (l.map fun a => Dt.int (f a)) = some (l.map f)
  | [] => rfl
  | a :: l => by
    show (intsD (l.map fun a => Dt.int (f a))).map (f a :: ·) = _
    rw [ints_map f l]
    rfl
theorem sum_castN : ∀ l : List Nat, (l.map fun p => ((p : Nat) : Int)).sum = (l.sum : Nat)
  | [] => rfl
  | a :: l => by
    rw [List.map_cons, List.sum_cons, sum_castN l, List.sum_cons]
    omega
theorem sum_is {l : List Nat} (h : l.length ≤ 1000) (hs : ∀ x ∈ l, x ≤ 1000000) : bSum [.lst (nD l)] = .ok (.int (l.sum : Nat)) := by
  show sumR (intsD _) = _
  rw [ints_map]
  simp only [sumR]
  rw [if_pos, sum_castN]
  refine ⟨by simpa using h, ?_⟩
  rw [List.all_eq_true]
  intro x hx
  obtain ⟨y, hy, rfl⟩ := List.mem_map.mp hx
  have := hs y hy
  simp
  omega
theorem one_lenT {ls : List (List Nat)} (hl : ls.length ≤ 1000) : F_of_one_length [.tup (ls.map Dt.str)] = .ok (.bl (ls.all fun l => decide (l.length = (ls.headD []).length))) := by
  unfold F_of_one_length B_of_one_length
  exists ev
  simp only [kCo]
  rw [com_map Dt.str (fun l => some (.bl (decide (l.length = (ls.headD []).length))))]
  · rw [fm_some, calm_ok, bd_ok, szL_ok (by simp; omega)]
    exists ev
    rw [bools_map]
    exists ev
    rw [List.all_map]
    rfl
  · intro l hm
    have a0 : atZ (ls.map Dt.str) 0 = some (.str (ls.headD [])) := by
      cases ls with
      | nil => cases hm
      | cons x xs => exact atZ_nat (n := 0) rfl
    exists evw, c_st, c_x1, startR, a0, c_x2t, c_some
    have e : decide (((l.length : Nat) : Int) = (((ls.headD []).length : Nat) : Int)) = decide (l.length = (ls.headD []).length) := by
      exact decide_eq_decide.mpr ⟨fun z => by omega, fun z => by omega⟩
    rw [e]
theorem unlike_okT {ls : List (List Nat)} (hl : ls.length ≤ 1000) (h : ∀ l ∈ ls, l.length = (ls.headD []).length) : F_refuse_unlike [.tup (ls.map Dt.str)] = .ok .non := by
  unfold F_refuse_unlike B_refuse_unlike
  exists ev
  rw [one_lenT hl]
  have : (ls.all fun l => decide (l.length = (ls.headD []).length)) = true := by
    rw [List.all_eq_true]
    intro l hm
    simpa using h l hm
  rw [this]
  exists ev
theorem gt_same (c : Int) : ∀ l : List Int, (∀ x ∈ l, x = c) → l.foldl gtI c = c
  | [], _ => rfl
  | x :: l, h => by
    have hx := h x (List.mem_cons_self ..)
    rw [List.foldl_cons, hx]
    have : gtI c c = c := by unfold gtI; simp
    rw [this]
    exact gt_same c l fun y hy => h y (List.mem_cons_of_mem _ hy)
/-- a list of waves, as a list or as a tuple -/
def wsD (t : Bool) (ws : List (List Nat)) : Dt := if t then .tup (ws.map Dt.str) else .lst (ws.map Dt.str)
theorem common_is {t : Bool} {ws : List (List Nat)} {L : Nat} (h0 : ws ≠ []) (hl : ws.length ≤ 100) (h : ∀ w ∈ ws, w.length = L) : F_common_length [wsD t ws] = .ok (.int (L : Nat)) := by
  have hh : ∀ l ∈ ws, l.length = (ws.headD []).length := by
    cases ws with
    | nil => exact absurd rfl h0
    | cons a r => intro l hm; rw [h l hm]; exact (h a List.mem_cons_self).symm
  have hm : maxDM (.lst (ws.map fun w => Dt.int (w.length : Nat))) (.int 0) = .ok (.int (L : Nat)) := by
    show maxR (intsD _) = _
    rw [ints_map (fun w : List Nat => ((w.length : Nat) : Int))]
    cases ws with
    | nil => exact absurd rfl h0
    | cons a r =>
      show M.ok (Dt.int ((r.map fun w => ((w.length : Nat) : Int)).foldl gtI ((a.length : Nat) : Int))) = _
      rw [h a List.mem_cons_self, gt_same]
      intro x hx
      obtain ⟨w, hw, rfl⟩ := List.mem_map.mp hx
      rw [h w (List.mem_cons_of_mem _ hw)]
  unfold F_common_length B_common_length
  cases t with
  | true =>
    simp only [wsD, if_true]
    exists evw, unlike_okT (ls := ws) (by omega) hh
    simp only [kCo]
    rw [com_map Dt.str (fun w => some (.int (w.length : Nat)))]
    · rw [fm_some, calm_ok, bd_ok, szL_ok (by simp; omega)]
      exists evw, hm
    · intro w hw
      exists evw, c_st, c_x1, startR, c_x2t, c_some
  | false =>
    simp only [wsD, Bool.false_eq_true, if_false]
    exists evw, unlike_ok (ls := ws) (by omega) hh
    simp only [kCo]
    rw [com_map Dt.str (fun w => some (.int (w.length : Nat)))]
    · rw [fm_some, calm_ok, bd_ok, szL_ok (by simp; omega)]
      exists evw, hm
    · intro w hw
      exists evw, c_st, c_x1, startR, c_x2t, c_some
def hgB (ws : List (List Nat)) (i : Nat) : Bool := ws.all fun w => decide (lv w i = 49)
def hgT (L : Nat) (ws : List (List Nat)) : List Nat := (List.range L).filter (hgB ws)
theorem high_is {t : Bool} {ws : List (List Nat)} {L : Nat} (h0 : ws ≠ []) (hl : ws.length ≤ 100) (h : ∀ w ∈ ws, w.length = L) (hL : L ≤ 1000) : F_all_high [wsD t ws] = .ok (.lst (nD (hgT L ws))) := by
  unfold F_all_high B_all_high
  exists evw, common_is (t := t) h0 hl h
  rw [ck_of (by omega)]
  exists ev
  simp only [kCo]
  rw [com_rng (fun i => if hgB ws i = true then some (.int (0 + (i : Nat))) else none)]
  · rw [fm_if, show (((L : Nat) : Int) - 0).toNat = L by omega, calm_ok, bd_ok]
    have := List.length_filter_le (hgB ws) (List.range L)
    rw [szL_ok (by simp at this ⊢; omega)]
    exists ev
    simp [nD, hgT, Function.comp_def]
  · intro i hi
    have hi' : i < L := by omega
    have hc : kCo 1 [0] (gNm 0) tYs (p2 oEq (p2 oIx (getV 0) (getV 1)) (pC (.str [49]))) [.val (.int (0 + (i : Nat))), .val (wsD t ws)] (ws.map Dt.str) = .ok (.lst (ws.map fun w => .bl (decide (lv w i = 49)))) := by
      simp only [kCo]
      rw [com_map Dt.str (fun w => some (.bl (decide (lv w i = 49))))]
      · rw [fm_some, calm_ok, bd_ok, szL_ok (by simp; omega)]
      · intro w hw
        have a1 := at_lvI (l := w) (k := 0 + (i : Nat)) (i := i) (by omega) (by rw [h w hw]; exact hi')
        exists evw, c_st, c_x1, startR, a1, c_x2t, c_some
        simp
    have hq : (wsD t ws = .tup (ws.map Dt.str) ∧ t = true) ∨ (wsD t ws = .lst (ws.map Dt.str) ∧ t = false) := by
      cases t
      · exact .inr ⟨rfl, rfl⟩
      · exact .inl ⟨rfl, rfl⟩
    have hb : (ws.map fun w => decide (lv w i = 49)).all id = hgB ws i := by simp [hgB, List.all_map, Function.comp_def]
    rcases hq with ⟨e, _⟩ | ⟨e, _⟩
    · rw [e] at hc ⊢
      exists evw, c_st, c_x1, startR, hc, bools_map, hb
      cases hgB ws i
      · exists evw, c_x2f
        rfl
      · exists evw, c_x2t, c_some
        rfl
    · rw [e] at hc ⊢
      exists evw, c_st, c_x1, startR, hc, bools_map, hb
      cases hgB ws i
      · exists evw, c_x2f
        rfl
      · exists evw, c_x2t, c_some
        rfl

theorem dep_sg {α : Type} (f : α → List Nat) : ∀ l : List α, deps (l.map fun a => Dt.str (f a)) = 0 := fun l => dep_strL f l
theorem eq_self {d : Dt} (h : dep d ≤ 50) : oEq d d = .ok (.bl true) := by rw [a_eq, ck_of h, eqD_refl]
theorem ne_self {d : Dt} (h : dep d ≤ 50) : oNe d d = .ok (.bl false) := by rw [a_ne, ck_of h, eqD_refl]; rfl
theorem dep_nD (T : List Nat) : dep (.lst (nD T)) ≤ 50 := by
  have : ∀ T : List Nat, deps (nD T) = 0 := fun T => by
    induction T with
    | nil => rfl
    | cons a T ih =>
      show max (dep (.int (a : Nat))) (deps (nD T)) = 0
      rw [ih]
      rfl
  show deps (nD T) + 1 ≤ 50
  rw [this]
  decide
theorem dep_ss (ps : List (List Nat)) : dep (.lst (ps.map Dt.str)) ≤ 50 := by
  show deps (ps.map fun p => Dt.str (id p)) + 1 ≤ 50
  rw [dep_sg]
  decide
end K98

set_option Elab.async false
set_option linter.all false
set_option maxRecDepth 100000
namespace K98
open L2 Pg

def noN (c : Nat) : Nat := if c = 48 then 49 else if c = 49 then 48 else 120
abbrev L3 (c : Nat) : Prop := c = 48 ∨ c = 49 ∨ c = 120
theorem dg_no {c : Nat} (h : L3 c) : dgT [([48], [49]), ([49], [48]), ([120], [120])] (.str [c]) = .ok (.str [noN c]) := by
  rcases h with rfl | rfl | rfl <;> rfl
def nm (a : List Nat) : List Nat := a.map noN
theorem nm_len (a : List Nat) : (nm a).length = a.length := by simp [nm]
theorem nm_lv {a : List Nat} {i : Nat} (h : i < a.length) : lv (nm a) i = noN (lv a i) := by simp [nm, lv, h]
theorem no_is {a : List Nat} (h : Lv3 a) (ha : a.length ≤ 1000) : F_no [.str a] = .ok (.str (nm a)) := by
  unfold F_no B_no
  exists ev
  simp only [kCo]
  rw [com_sgs (fun c => some (.str [noN c]))]
  · rw [fm_some, calm_ok, bd_ok, szL_ok (by simp; omega)]
    exists ev
    rw [show (a.map fun c => Dt.str [noN c]) = (nm a).map fun c => Dt.str [c] from by simp [nm]]
    exists evw, strs_one, flat_one
    rw [szS_ok (by simp [nm]; omega)]
    exists ev
    simp
  · intro c hc
    exists evw, c_st, c_x1, startR, c_x2t, dg_no (h c hc), c_some
theorem lv_mem {a : List Nat} {i : Nat} (h : i < a.length) : lv a i ∈ a := by simp [lv, h]
theorem ix_lt {x : Int} {n : Nat} (h : 1 ≤ n) : (x % (n : Nat)).toNat < n := by have := md (b := x) h; omega
theorem rl_lv3 {a : List Nat} {b : Int} (h : Lv3 a) : Lv3 (rl a b) := by
  intro c hc
  unfold rl rot at hc
  rcases List.mem_append.mp hc with h' | h'
  · exact h c (List.mem_of_mem_drop h')
  · exact h c (List.mem_of_mem_take h')
theorem gm_rl {g : Nat → Nat → Nat} {a b : List Nat} {y : Int} (h : a.length = b.length) (h1 : 1 ≤ a.length) : gm g (rl a y) (rl b y) = rl (gm g a b) y := by
  have l1 := rl_len (a := a) (b := y) h1
  have l2 := rl_len (a := gm g a b) (b := y) (by rw [gm_len]; exact h1)
  rw [gm_len] at l2
  refine lv_ext (by rw [gm_len]; omega) fun i hi => ?_
  rw [gm_len] at hi
  rw [gm_lv hi, rl_lv (by omega), rl_lv (by omega), rl_lv (by rw [gm_len]; omega), gm_len, ← h, gm_lv (ix_lt h1)]
theorem nm_rl {a : List Nat} {y : Int} (h1 : 1 ≤ a.length) : nm (rl a y) = rl (nm a) y := by
  have l1 := rl_len (a := a) (b := y) h1
  have l2 := rl_len (a := nm a) (b := y) (by rw [nm_len]; exact h1)
  rw [nm_len] at l2
  refine lv_ext (by rw [nm_len]; omega) fun i hi => ?_
  rw [nm_len] at hi
  rw [nm_lv hi, rl_lv (by omega), rl_lv (by rw [nm_len]; omega), nm_len, nm_lv (ix_lt h1)]
theorem lv_rev {a : List Nat} {i : Nat} (h : i < a.length) : lv a.reverse i = lv a (a.length - 1 - i) := by
  unfold lv
  simp only [List.getD_eq_getElem?_getD]
  rw [List.getElem?_reverse h]
theorem gm_rev {g : Nat → Nat → Nat} {a b : List Nat} (h : a.length = b.length) : gm g a.reverse b.reverse = (gm g a b).reverse := by
  refine lv_ext (by simp [gm_len]) fun i hi => ?_
  rw [gm_len] at hi
  have hi' : i < a.length := by simpa using hi
  rw [gm_lv hi, lv_rev hi', lv_rev (by omega), lv_rev (by rw [gm_len]; exact hi'), gm_len, ← h, gm_lv (by omega)]
theorem rev_rl {a : List Nat} {y : Int} (h1 : 1 ≤ a.length) : (rl a y).reverse = rl a.reverse (0 - y) := by
  have l1 := rl_len (a := a) (b := y) h1
  have l2 := rl_len (a := a.reverse) (b := 0 - y) (by simpa using h1)
  rw [List.length_reverse] at l2
  refine lv_ext (by rw [List.length_reverse]; omega) fun i hi => ?_
  rw [List.length_reverse] at hi
  have m := md (b := ((i : Nat) : Int) - (0 - y)) h1
  rw [lv_rev hi, rl_lv (by omega), rl_lv (by rw [List.length_reverse]; omega), List.length_reverse, lv_rev (ix_lt h1), l1]
  congr 1
  have e := Int.mul_ediv_add_emod (((i : Nat) : Int) - (0 - y)) (a.length : Nat)
  generalize hq : (((i : Nat) : Int) - (0 - y)) / (a.length : Nat) = q at e
  generalize hr : (((i : Nat) : Int) - (0 - y)) % (a.length : Nat) = r at e m
  have e1 : ((((a.length - 1 - i : Nat)) : Int) - y) = ((a.length : Nat) : Int) - 1 - r + (a.length : Nat) * (-q) := by
    rw [Int.mul_neg]
    omega
  rw [e1, Int.add_mul_emod_self_left, Int.emod_eq_of_lt (by omega) (by omega)]
  omega
theorem wnd_gm {g : Nat → Nat → Nat} {a b : List Nat} {i n : Nat} (h : a.length = b.length) (hi : i + n ≤ a.length) : gm g ((a.drop i).take n) ((b.drop i).take n) = ((gm g a b).drop i).take n := by
  have tl : ∀ (c : List Nat) (j : Nat), i + n ≤ c.length → j < n → lv ((c.drop i).take n) j = lv c (i + j) := fun c j hc hj => by
    unfold lv
    simp only [List.getD_eq_getElem?_getD]
    rw [List.getElem?_take_of_lt hj, List.getElem?_drop]
  refine lv_ext (by rw [gm_len]; simp [gm_len]) fun j hj => ?_
  rw [gm_len] at hj
  have hj' : j < n := by simp at hj; omega
  rw [gm_lv hj, tl a j hi hj', tl b j (by omega) hj', tl _ j (by rw [gm_len]; exact hi) hj', gm_lv (by omega)]
theorem wnd_rev {a : List Nat} {n : Nat} (h2 : n ≤ a.length) : wnd a.reverse n = ((wnd a n).map List.reverse).reverse := by
  unfold wnd
  refine List.ext_getElem (by simp) fun i h1 h3 => ?_
  simp at h1 h3
  simp
  rw [List.drop_reverse, List.take_reverse]
  congr 1
  rw [List.drop_take]
  simp
  congr 1
  · omega
  · congr 1
    omega
/-! ### distances -/
def dfT (n : Nat) (a b : List Nat) : List Nat := (List.range n).filter fun i => !decide (lv a i = lv b i)
def dist (a b : List Nat) : Nat := (dfT a.length a b).length
theorem dfT_len (n : Nat) (a b : List Nat) : (dfT n a b).length ≤ n := by
  have := List.length_filter_le (fun i => !decide (lv a i = lv b i)) (List.range n)
  simpa [dfT] using this
theorem dfC {a b : List Nat} {ρ : Rho} {x y : Nat} {n : Nat} (hx : ρ[x]? = some (.val (.str a))) (hy : ρ[y]? = some (.val (.str b))) (ha : a.length = n) (hb : b.length = n) (hn : n ≤ 1000) :
    kCo 1 [x, y] (gNm 0) (tOf (p2 oNe (p2 oIx (getV 1) (getV 0)) (p2 oIx (getV 2) (getV 0)))) (getV 0) ρ (rngD 0 (n : Nat)) = .ok (.lst ((dfT n a b).map fun (i : Nat) => .int (0 + (i : Nat)))) := by
  simp only [kCo]
  rw [com_rng (fun i => if (!decide (lv a i = lv b i)) = true then some (.int (0 + (i : Nat))) else none)]
  · rw [fm_if, show ((n : Int) - 0).toNat = n by omega]
    have := dfT_len n a b
    rw [calm_ok, bd_ok]
    show szL ((dfT n a b).map fun (i : Nat) => Dt.int (0 + (i : Nat))) = _
    rw [szL_ok (by rw [List.length_map]; omega)]
  · intro i hi
    have a1 := at_lvI (l := a) (k := 0 + (i : Nat)) (i := i) (by omega) (by omega)
    have a2 := at_lvI (l := b) (k := 0 + (i : Nat)) (i := i) (by omega) (by omega)
    exists evw, c_st, c_x1, startR, hx, hy, a1, a2
    by_cases hq : lv a i = lv b i
    · have : [lv a i] = [lv b i] := by rw [hq]
      simp only [this, hq, decide_true, Bool.not_true]
      exists evw, c_x2f
      simp
    · have : ¬ [lv a i] = [lv b i] := by simpa using hq
      simp only [this, hq, decide_false, Bool.not_false]
      exists evw, c_x2t, c_some
      simp
theorem distance_is {a b : List Nat} (h : a.length = b.length) (ha : a.length ≤ 1000) : F_distance [.str a, .str b] = .ok (.int (dist a b : Nat)) := by
  unfold F_distance B_distance
  exists ev
  rw [szL_ok (by simp)]
  exists evw, unlike_two h
  rw [ck_of (by omega)]
  exists ev
  rw [dfC (a := a) (b := b) rfl rfl rfl h.symm ha]
  exists ev
  rfl
def d1 (a b : List Nat) (i : Nat) : Nat := if lv a i = lv b i then 0 else 1
theorem dist_one (c d : Nat) : dist [c] [d] = if c = d then 0 else 1 := by
  show ([0].filter fun i => !decide (lv [c] i = lv [d] i)).length = _
  by_cases h : c = d <;> simp [lv, h]
theorem dist_sum (a b : List Nat) : ((List.range a.length).map (d1 a b)).sum = dist a b := by
  unfold dist dfT
  generalize List.range a.length = l
  induction l with
  | nil => rfl
  | cons i l ih =>
    rw [List.map_cons, List.sum_cons, ih, List.filter_cons]
    unfold d1
    by_cases h : lv a i = lv b i <;> simp [h] <;> omega
end K98

set_option Elab.async false
set_option linter.all false
set_option maxRecDepth 100000
namespace K98
open L2 Pg

/-! ### numbers of two waves -/
def v2 (c d : Nat) : Dt := if c = 120 ∨ d = 120 then .non else .int ((c - 48 : Nat) + 2 * (d - 48 : Nat))
theorem value2 {a b : List Nat} {i : Nat} (h : a.length = b.length) (hi : i < a.length) (ha : Lv3 a) (hb : Lv3 b) : F_value_at [.lst [.str a, .str b], .int (i : Nat)] = .ok (v2 (lv a i) (lv b i)) := by
  have a1 := at_lv (l := a) (i := i) hi
  have a2 := at_lv (l := b) (i := i) (by omega)
  have m1 := ha _ (lv_mem hi)
  have m2 := hb _ (lv_mem (a := b) (i := i) (by omega))
  unfold F_value_at B_value_at
  exists ev
  have hc : kCo 1 [1] (gNm 0) tYs (p2 oIx (getV 0) (getV 1)) [.val (.lst [.str a, .str b]), .val (.int (i : Nat)), .no] [.str a, .str b] = .ok (.lst [.str [lv a i], .str [lv b i]]) := by
    simp only [kCo]
    rw [show [Dt.str a, .str b] = [a, b].map Dt.str from rfl, com_map Dt.str (fun w => some (.str [lv w i]))]
    · rw [fm_some, calm_ok, bd_ok, szL_ok (by simp)]
      rfl
    · intro w hw
      have a3 : atZ w (i : Nat) = some (lv w i) := by
        simp at hw
        rcases hw with rfl | rfl
        · exact a1
        · exact a2
      exists evw, c_st, c_x1, startR, c_x2t, a3, c_some
  rw [hc]
  generalize lv a i = c at m1
  generalize lv b i = d at m2
  rcases m1 with rfl | rfl | rfl <;> rcases m2 with rfl | rfl | rfl <;> rfl
theorem vals2 {a b : List Nat} (h : a.length = b.length) (hL : a.length ≤ 100) (ha : Lv3 a) (hb : Lv3 b) : F_values_of [.lst [.str a, .str b]] = .ok (.lst ((List.range a.length).map fun i => v2 (lv a i) (lv b i))) := by
  have C := common_is (t := false) (ws := [a, b]) (L := a.length) (by simp) (by simp) (by simp [h])
  have e : wsD false [a, b] = .lst [.str a, .str b] := rfl
  rw [e] at C
  unfold F_values_of B_values_of
  exists evw, C
  rw [ck_of (by omega)]
  exists ev
  simp only [kCo]
  rw [com_rng (fun i => some (v2 (lv a i) (lv b i)))]
  · rw [fm_some, calm_ok, bd_ok, szL_ok (by simp; omega)]
    exists ev
    rw [show ((a.length : Int) - 0).toNat = a.length by omega]
  · intro i hi
    have V := value2 (a := a) (b := b) (i := i) h (by omega) ha hb
    have e0 : (0 : Int) + (i : Nat) = (i : Nat) := by omega
    exists evw, c_st, c_x1, startR, c_x2t, e0, V, c_some
/-! ### how often all parts are there -/
theorem cnt_sum : ∀ (n : Nat) (ps : List (List Nat)), ps.length = n → (ps.eraseDups.map fun p => ps.count p).sum = ps.length := by
  intro n
  induction n using Nat.strongRecOn with
  | _ n ih =>
    intro ps hn
    cases ps with
    | nil => rfl
    | cons x l =>
      rw [List.eraseDups_cons]
      have h1 := List.length_filter_le (fun b => !b == x) l
      have I := ih _ (by simp at hn; omega) (l.filter fun b => !b == x) rfl
      rw [List.map_cons, List.sum_cons]
      have e : ((l.filter fun b => !b == x).eraseDups.map fun p => (x :: l).count p) = (l.filter fun b => !b == x).eraseDups.map fun p => (l.filter fun b => !b == x).count p := by
        refine List.map_congr_left fun p hp => ?_
        have := List.mem_eraseDups.mp hp
        have hx : ¬ p = x := by
          have := (List.mem_filter.mp this).2
          simpa using this
        have hx' : ¬ x = p := fun z => hx z.symm
        rw [List.count_cons, if_neg (by simpa using hx'), List.count_filter (by simpa using hx)]
        rfl
      rw [e, I]
      have : ∀ l : List (List Nat), l.count x + (l.filter fun b => !b == x).length = l.length := fun l => by
        induction l with
        | nil => rfl
        | cons y l ih =>
          rw [List.count_cons, List.filter_cons]
          by_cases h : y = x <;> simp [h] <;> omega
      have := this l
      rw [List.count_cons]
      simp
      omega
theorem wct_sum (ps : List (List Nat)) : ((sortT ps.eraseDups).map fun p => ps.count p).sum = ps.length := by
  rw [((sortT_perm ps.eraseDups).map _).sum_nat]
  exact cnt_sum _ ps rfl
theorem sort_is {ps : List (List Nat)} (h : ps.length ≤ 60) : oSort (.lst (ps.map Dt.str)) = .ok (.lst ((sortT ps).map Dt.str)) := by
  show (if (ps.map Dt.str).length ≤ 60 then sortLM (strsM (ps.map Dt.str)) else .bad) = _
  rw [if_pos (by simpa using h), strs_all]
  rfl
theorem rev_sort {a : List Nat} {n : Nat} (h2 : n ≤ a.length) : sortT (wnd a.reverse n) = sortT ((wnd a n).map List.reverse) := by
  rw [wnd_rev h2]
  exact sort_same (List.reverse_perm _)
end K98

set_option Elab.async false
set_option linter.all false
set_option maxRecDepth 100000
namespace K98
open L2 Pg

abbrev sD (ps : List (List Nat)) : Dt := .lst (ps.map Dt.str)
theorem ix0 {x y : Dt} : atZ [x, y] 0 = some x := rfl
theorem ix1 {x y : Dt} : atZ [x, y] 1 = some y := rfl
theorem few {c d : Nat} (h : c ≤ d) : decide (((c : Nat) : Int) > (d : Nat)) = false := decide_eq_false (by omega)
theorem talliesC {u w : List Nat} {ρ : Rho} (h : ∀ c, u.count c ≤ w.count c) :
    kCo 2 [] (gTp 2 (gZc (gNm 0) (gZc (gNm 1) gZn))) (tOf (p2 oGt (getV 0) (getV 1))) (pC (.int 1)) ρ [.tup [.int (u.count 48 : Nat), .int (w.count 48 : Nat)], .tup [.int (u.count 49 : Nat), .int (w.count 49 : Nat)], .tup [.int (u.count 120 : Nat), .int (w.count 120 : Nat)]] = .ok (.lst []) := by
  simp only [kCo]
  have := com_map (g := gTp 2 (gZc (gNm 0) (gZc (gNm 1) gZn))) (tc := tOf (p2 oGt (getV 0) (getV 1))) (te := pC (.int 1)) (ρ0 := startR 2 [] ρ) (fun p : Nat => Dt.tup [.int (u.count p : Nat), .int (w.count p : Nat)]) (fun _ => none) [48, 49, 120] (fun p hp => by
    have g := few (h p)
    exists evw, c_st, c_x1, startR, g, c_x2f)
  simp only [List.map_cons, List.map_nil] at this
  rw [this, calm_ok, bd_ok]
  rfl
theorem loop0 {a b : List Nat} {L n : Nat} {b0 b1 b3 b4 b5 b6 b7 b8 b9 b10 b11 b12 b13 : Bd} (ha : a.length = L) (hb : b.length = L) (hL : L ≤ 12) (h1 : 1 ≤ n) (h2 : n ≤ L) :
    ∃ c10 c11 c12, forM' (gTp 3 (gZc (gNm 10) (gZc (gNm 11) (gZc (gNm 12) gZn)))) L_law_0 (zip3D ((wnd a n).map Dt.str) ((wnd b n).map Dt.str) ((wnd (gm bothN a b) n).map Dt.str)) [b0, b1, .val (.str a), b3, b4, b5, b6, b7, b8, b9, b10, b11, b12, b13] = .ok (.nx [b0, b1, .val (.str a), b3, b4, b5, b6, b7, b8, b9, c10, c11, c12, b13]) := by
  have z3 : zip3D ((wnd a n).map Dt.str) ((wnd b n).map Dt.str) ((wnd (gm bothN a b) n).map Dt.str) = (List.range (L - n + 1)).map fun i => Dt.tup [.str ((a.drop i).take n), .str ((b.drop i).take n), .str (((gm bothN a b).drop i).take n)] := by
    unfold wnd
    rw [gm_len, hb, ha]
    simp only [List.map_map]
    generalize List.range (L - n + 1) = l
    induction l with
    | nil => rfl
    | cons i l ih =>
      simp only [List.map_cons]
      rw [← ih]
      rfl
  rw [z3]
  obtain ⟨ρ, e, c10, c11, c12, p⟩ := for_inv (g := gTp 3 (gZc (gNm 10) (gZc (gNm 11) (gZc (gNm 12) gZn)))) (b := L_law_0) ((List.range (L - n + 1)).map fun i => Dt.tup [.str ((a.drop i).take n), .str ((b.drop i).take n), .str (((gm bothN a b).drop i).take n)]) (fun i ρ => ∃ c10 c11 c12, ρ = [b0, b1, .val (.str a), b3, b4, b5, b6, b7, b8, b9, c10, c11, c12, b13]) [b0, b1, .val (.str a), b3, b4, b5, b6, b7, b8, b9, b10, b11, b12, b13] ⟨b10, b11, b12, rfl⟩ (by
    rintro j d ρ hd ⟨c10, c11, c12, rfl⟩
    have hj : j < L - n + 1 := by
      have := (List.getElem?_eq_some_iff.mp hd).1
      simpa using this
    have ed : d = .tup [.str ((a.drop j).take n), .str ((b.drop j).take n), .str (((gm bothN a b).drop j).take n)] := by
      simp [hj] at hd
      exact hd.symm
    subst ed
    have B := both_is (a := (a.drop j).take n) (b := (b.drop j).take n) (by simp; omega) (by simp; omega)
    rw [wnd_gm (by omega) (by omega)] at B
    have hc : ∀ c, ((a.drop j).take n).count c ≤ a.count c := fun c => ((List.take_sublist n _).trans (List.drop_sublist j a)).count_le c
    have Z : zip2T [tlD ((a.drop j).take n), tlD a] = .ok [.tup [.int (((a.drop j).take n).count 48 : Nat), .int (a.count 48 : Nat)], .tup [.int (((a.drop j).take n).count 49 : Nat), .int (a.count 49 : Nat)], .tup [.int (((a.drop j).take n).count 120 : Nat), .int (a.count 120 : Nat)]] := rfl
    refine ⟨_, ?_, .val (.str ((a.drop j).take n)), .val (.str ((b.drop j).take n)), .val (.str (((gm bothN a b).drop j).take n)), rfl⟩
    unfold L_law_0
    exists evw, B, decide_true, tally_is (W := (a.drop j).take n), tally_is (W := a), Z
    rw [talliesC hc]
    exists ev
    rw [szL_ok (by simp)]
    exists evw, ne_self (d := .lst []) (by decide))
  exact ⟨c10, c11, c12, by rw [e, p]⟩
theorem distC {a b : List Nat} {ρ : Rho} {L : Nat} (ha : a.length = L) (hb : b.length = L) (hL : L ≤ 100) (h1 : 1 ≤ L) :
    kCo 2 [] (gTp 2 (gZc (gNm 0) (gZc (gNm 1) gZn))) tYs (pCall F_distance (aCons (getV 0) (aCons (getV 1) aNil))) ρ (zipD ((wnd a 1).map Dt.str) ((wnd b 1).map Dt.str)) = .ok (.lst (nD ((List.range L).map (d1 a b)))) := by
  have z : zipD ((wnd a 1).map Dt.str) ((wnd b 1).map Dt.str) = (List.range L).map fun i => Dt.tup [.str [lv a i], .str [lv b i]] := by
    rw [wnd_one (by omega), wnd_one (by omega)]
    have e := zip_sg (w := a) (o := b) (by omega)
    rw [← ha, ← e]
    simp [sgD, List.map_map, Function.comp_def]
  rw [z]
  simp only [kCo]
  rw [com_map (fun i : Nat => Dt.tup [.str [lv a i], .str [lv b i]]) (fun i => some (.int (d1 a b i : Nat)))]
  · rw [fm_some, calm_ok, bd_ok, szL_ok (by simp; omega)]
    simp [nD, Function.comp_def]
  · intro i hi
    have D := distance_is (a := [lv a i]) (b := [lv b i]) rfl (by simp)
    rw [dist_one] at D
    exists evw, c_st, c_x1, startR, c_x2t, D, c_some
    rfl
theorem highC {a b : List Nat} {L : Nat} {x y z : Dt} {ρ : Rho} (hx : ρ[8]? = some (.val (.lst [.str (gm bothN a b), x, y, z]))) (ha : a.length = L) (hb : b.length = L) (hL : L ≤ 100) (h3 : Lv3 a) (h4 : Lv3 b) :
    kCo 1 [8] (gNm 0) (tOf (p2 oEq (p2 oIx (p2 oIx (getV 1) (pC (.int 0))) (getV 0)) (pC (.str [49])))) (getV 0) ρ (rngD 0 (L : Nat)) = .ok (.lst (nD (hgT L [a, b]))) := by
  simp only [kCo]
  rw [com_rng (fun i => if hgB [a, b] i = true then some (.int (0 + (i : Nat))) else none)]
  · rw [fm_if, show (((L : Nat) : Int) - 0).toNat = L by omega, calm_ok, bd_ok]
    have := List.length_filter_le (hgB [a, b]) (List.range L)
    rw [szL_ok (by simp at this ⊢; omega)]
    simp [nD, hgT, Function.comp_def]
  · intro i hi
    have hi' : i < L := by omega
    have a0 : atZ [Dt.str (gm bothN a b), x, y, z] 0 = some (.str (gm bothN a b)) := rfl
    have a1 := at_lvI (l := gm bothN a b) (k := 0 + (i : Nat)) (i := i) (by omega) (by rw [gm_len]; omega)
    rw [gm_lv (by omega)] at a1
    have e : decide ([bothN (lv a i) (lv b i)] = [49]) = hgB [a, b] i := by
      have m1 : lv a i ∈ a := lv_mem (by omega)
      have m2 : lv b i ∈ b := lv_mem (by omega)
      unfold hgB
      simp only [List.all_cons, List.all_nil]
      rcases h3 _ m1 with e1 | e1 | e1 <;> rcases h4 _ m2 with e2 | e2 | e2 <;> rw [e1, e2] <;> decide
    exists evw, c_st, c_x1, startR, hx, a0, a1, e
    cases hgB [a, b] i
    · exists evw, c_x2f
      rfl
    · exists evw, c_x2t, c_some
      rfl
theorem backC {a b : List Nat} {L : Nat} {y : Int} {ρ : Rho} (hx : ρ[1]? = some (.val (.int (L : Nat)))) (hy : ρ[4]? = some (.val (.int y))) (hz : ρ[13]? = some (.val (.lst ((List.range L).map fun i => v2 (lv a i) (lv b i))))) (ha : a.length = L) (hb : b.length = L) (hL : L ≤ 100) (h1 : 1 ≤ L) :
    kCo 1 [1, 4, 13] (gNm 0) tYs (p2 oIx (getV 3) (p2 oMod (p2 oSub (getV 0) (getV 2)) (getV 1))) ρ (rngD 0 (L : Nat)) = .ok (.lst ((List.range L).map fun i => v2 (lv (rl a y) i) (lv (rl b y) i))) := by
  simp only [kCo]
  rw [com_rng (fun i => some (v2 (lv (rl a y) i) (lv (rl b y) i)))]
  · rw [fm_some, show (((L : Nat) : Int) - 0).toNat = L by omega, calm_ok, bd_ok, szL_ok (by simp; omega)]
  · intro i hi
    have m := md (b := 0 + ((i : Nat) : Int) - y) h1
    have e : (0 + ((i : Nat) : Int) - y) % (L : Nat) = ((((0 + ((i : Nat) : Int) - y) % (L : Nat)).toNat : Nat) : Int) := by omega
    have a1 : atZ ((List.range L).map fun i => v2 (lv a i) (lv b i)) ((0 + ((i : Nat) : Int) - y) % (L : Nat)) = some (v2 (lv (rl a y) i) (lv (rl b y) i)) := by
      rw [rl_lv (by omega), rl_lv (by omega), ha, hb, e]
      refine atZ_nat ?_
      have e0 : (0 : Int) + (i : Nat) - y = (i : Nat) - y := by omega
      rw [e0]
      have := ix_lt (x := ((i : Nat) : Int) - y) h1
      simp [this]
    exists evw, c_st, c_x1, startR, hx, hy, hz, c_x2t
    rw [ck_of (by omega)]
    exists evw, a1, c_some
end K98

set_option Elab.async false
set_option linter.all false
set_option maxRecDepth 100000
namespace K98
open L2 Pg

theorem dep_ints2 {α : Type} (f : α → Dt) (hf : ∀ a, dep (f a) = 0) (l : List α) : dep (.lst (l.map f)) ≤ 50 := by
  have : ∀ l : List α, deps (l.map f) = 0 := fun l => by
    induction l with
    | nil => rfl
    | cons a l ih =>
      show max (dep (f a)) (deps (l.map f)) = 0
      rw [ih, hf]
      rfl
  show deps (l.map f) + 1 ≤ 50
  rw [this]
  decide
theorem dep_v2 (c d : Nat) : dep (v2 c d) = 0 := by
  unfold v2
  split <;> rfl
theorem s12 {a b : List Nat} {L n : Nat} {y : Int} {x z w : Dt} {b0 b7 b9 b10 b11 b12 b13 : Bd} (ha : a.length = L) (hb : b.length = L) (hL : L ≤ 12) (h1 : 1 ≤ n) (h2 : n ≤ L) (h3 : Lv3 a) (h4 : Lv3 b) :
    S_law_12 [b0, .val (.int (L : Nat)), .val (.str a), .val (.str b), .val (.int y), .val (.int (n : Nat)), .val (.tup [.str (rl a y), .str (rl b y)]), b7, .val (.lst [.str (gm bothN a b), x, z, w]), b9, b10, b11, b12, b13] = .ok (.rt (.bl true)) := by
  have l1 := rl_len (a := a) (b := y) (by omega)
  have l2 := rl_len (a := b) (b := y) (by omega)
  have i1 : (1 : Int) = ((1 : Nat) : Int) := rfl
  have W1 := windows_is (w := a) (n := 1) (by omega) (by omega) (by omega)
  have W2 := windows_is (w := b) (n := 1) (by omega) (by omega) (by omega)
  rw [← i1] at W1 W2
  have D := distance_is (a := a) (b := b) (by omega) (by omega)
  have sm := sum_is (l := (List.range L).map (d1 a b)) (by simp; omega) (fun x hx => by obtain ⟨i, _, rfl⟩ := List.mem_map.mp hx; unfold d1; split <;> omega)
  rw [← ha, dist_sum, ha] at sm
  have W := windows_is (w := a) (n := n) h1 (by omega) (by omega)
  have WR := windows_is (w := a.reverse) (n := n) h1 (by simp; omega) (by simp; omega)
  have wl := wnd_len a n
  have wr := wnd_len a.reverse n
  rw [List.length_reverse] at wr
  have S1 := sort_is (ps := wnd a.reverse n) (by omega)
  rw [rev_sort (by omega)] at S1
  have S2 := sort_is (ps := (wnd a n).map List.reverse) (by simp; omega)
  have tC : ∀ ρ, kCo 1 [] (gNm 0) tYs (pCall F_turned_about (aCons (getV 0) aNil)) ρ ((wnd a n).map Dt.str) = .ok (.lst (((wnd a n).map List.reverse).map Dt.str)) := by
    intro ρ
    simp only [kCo]
    rw [com_map Dt.str (fun p => some (.str p.reverse))]
    · rw [fm_some, calm_ok, bd_ok, szL_ok (by simp; omega)]
      simp [Function.comp_def]
    · intro p hp
      exists evw, c_st, c_x1, startR, c_x2t, turned_is (l := p), c_some
  have V := vals2 (a := a) (b := b) (by omega) (by omega) h3 h4
  rw [ha] at V
  have VR := vals2 (a := rl a y) (b := rl b y) (by omega) (by omega) (rl_lv3 h3) (rl_lv3 h4)
  rw [l1, ha] at VR
  have H := high_is (t := false) (ws := [a, b]) (L := L) (by simp) (by simp) (by simp [ha, hb]) (by omega)
  rw [show wsD false [a, b] = .lst [.str a, .str b] from rfl] at H
  unfold S_law_12
  exists evw, W1, W2, a_zn, a_sqL, a_kN1
  rw [distC ha hb (by omega) (by omega)]
  exists evw, sm, D, decide_true
  unfold S_law_13
  exists evw, turned_is (l := a), WR, S1, W, tC, S2, ne_self (dep_ss (sortT ((wnd a n).map List.reverse)))
  unfold S_law_14
  exists ev
  rw [szL_ok (by simp)]
  exists evw, V
  unfold S_law_15
  exists evw, ix0, ix1
  rw [szL_ok (by simp)]
  exists evw, VR
  rw [ck_of (by omega)]
  exists ev
  rw [backC (a := a) (b := b) (L := L) (y := y) rfl rfl rfl ha hb (by omega) (by omega)]
  exists evw, ne_self (dep_ints2 (fun i => v2 (lv (rl a y) i) (lv (rl b y) i)) (fun i => dep_v2 _ _) (List.range L))
  unfold S_law_16
  exists ev
  rw [szL_ok (by simp)]
  exists evw, H
  rw [ck_of (by omega)]
  exists ev
  rw [highC (a := a) (b := b) (L := L) (x := x) (y := z) (z := w) rfl ha hb (by omega) h3 h4]
  exists evw, ne_self (dep_nD (hgT L [a, b]))
  unfold S_law_17
  have C := counts_is (w := a) (n := n) h1 (by omega) (by omega)
  have dl := dup_le (wnd a n)
  have sl := (sortT_perm (wnd a n).eraseDups).length_eq
  have cC : ∀ ρ, kCo 1 [] (gNm 0) tYs (p2 oIx (getV 0) (pC (.int 1))) ρ (wct (wnd a n)) = .ok (.lst (nD ((sortT (wnd a n).eraseDups).map fun p => (wnd a n).count p))) := by
    intro ρ
    simp only [kCo]
    unfold wct
    rw [com_map (fun p => Dt.tup [.str p, .int ((wnd a n).count p : Nat)]) (fun p => some (.int ((wnd a n).count p : Nat)))]
    · rw [fm_some, calm_ok, bd_ok, szL_ok (by simp; omega)]
      simp [nD, Function.comp_def]
    · intro p hp
      exists evw, c_st, c_x1, startR, c_x2t, ix1, c_some
  have s2 := sum_is (l := (sortT (wnd a n).eraseDups).map fun p => (wnd a n).count p) (by simp; omega) (fun x hx => by
    obtain ⟨p, _, rfl⟩ := List.mem_map.mp hx
    have := List.count_le_length (a := p) (l := wnd a n)
    omega)
  rw [wct_sum, wl, ha] at s2
  have N := no_is h3 (by omega)
  have D2 := distance_is (a := a) (b := nm a) (by rw [nm_len]) (by omega)
  have g1 : decide ((((L - n + 1 : Nat)) : Int) = ((L : Nat) : Int) - ((n : Nat) : Int) + 1) = true := decide_eq_true (by omega)
  have g2 : decide (((dist a (nm a) : Nat) : Int) ≤ ((L : Nat) : Int)) = true := decide_eq_true (by have := dfT_len a.length a (nm a); unfold dist; omega)
  exists evw, C, cC, s2, g1, N, D2, g2
theorem s3 {a b : List Nat} {L n : Nat} {y : Int} {b0 b6 b7 b8 b9 b10 b11 b12 b13 : Bd} (ha : a.length = L) (hb : b.length = L) (hL : L ≤ 12) (h1 : 1 ≤ n) (h2 : n ≤ L) (h3 : Lv3 a) (h4 : Lv3 b) :
    S_law_3 [b0, .val (.int (L : Nat)), .val (.str a), .val (.str b), .val (.int y), .val (.int (n : Nat)), b6, b7, b8, b9, b10, b11, b12, b13] = .ok (.rt (.bl true)) := by
  have l1 := rl_len (a := a) (b := y) (by omega)
  have l2 := rl_len (a := b) (b := y) (by omega)
  have R1 := rolled_is (a := a) (b := y) (by omega) (by omega)
  have R2 := rolled_is (a := b) (b := y) (by omega) (by omega)
  have hab : a.length = b.length := by omega
  have B := both_is hab (by omega)
  have Ei := either_is hab (by omega)
  have U := unlike_is hab (by omega)
  have N := no_is h3 (by omega)
  have B2 := both_is (a := rl a y) (b := rl b y) (by omega) (by omega)
  have E2 := either_is (a := rl a y) (b := rl b y) (by omega) (by omega)
  have U2 := unlike_is (a := rl a y) (b := rl b y) (by omega) (by omega)
  have N2 := no_is (a := rl a y) (rl_lv3 h3) (by omega)
  rw [gm_rl hab (by omega)] at B2 E2 U2
  rw [nm_rl (by omega)] at N2
  have gl : ∀ g, (gm g a b).length = L := fun g => by rw [gm_len]; exact ha
  have nl : (nm a).length = L := by rw [nm_len]; exact ha
  have Q1 := rolled_is (a := gm bothN a b) (b := y) (by rw [gl]; omega) (by rw [gl]; omega)
  have Q2 := rolled_is (a := gm eithN a b) (b := y) (by rw [gl]; omega) (by rw [gl]; omega)
  have Q3 := rolled_is (a := gm unlN a b) (b := y) (by rw [gl]; omega) (by rw [gl]; omega)
  have Q4 := rolled_is (a := nm a) (b := y) (by rw [nl]; omega) (by rw [nl]; omega)
  have B3 := both_is (a := a.reverse) (b := b.reverse) (by simp; omega) (by simp; omega)
  have U3 := unlike_is (a := a.reverse) (b := b.reverse) (by simp; omega) (by simp; omega)
  rw [gm_rev hab] at B3 U3
  have R3 := rolled_is (a := a.reverse) (b := 0 - y) (by simp; omega) (by simp; omega)
  rw [← rev_rl (by omega)] at R3
  have rC : ∀ (ρ : Rho) (p q : List Nat), ρ[4]? = some (.val (.int y)) → p.length = L → q.length = L → kCo 1 [4] (gNm 0) tYs (pCall F_rolled (aCons (getV 0) (aCons (getV 1) aNil))) ρ [.str p, .str q] = .ok (.lst [.str (rl p y), .str (rl q y)]) := by
    intro ρ p q hx hp hq
    simp only [kCo]
    rw [show [Dt.str p, .str q] = [p, q].map Dt.str from rfl, com_map Dt.str (fun w => some (.str (rl w y)))]
    · rw [fm_some, calm_ok, bd_ok, szL_ok (by simp)]
      rfl
    · intro w hw
      have hwl : w.length = L := by simp at hw; rcases hw with rfl | rfl <;> assumption
      exists evw, c_st, c_x1, startR, hx, c_x2t, rolled_is (a := w) (b := y) (by omega) (by omega), c_some
  unfold S_law_3
  exists evw, R1, R2
  rw [ck_of (by simp)]
  exists ev
  unfold S_law_4
  exists evw, turned_is (l := a), turned_is (l := b)
  rw [ck_of (by simp)]
  exists ev
  unfold S_law_5
  exists evw, B, Ei, U, N
  rw [szL_ok (by simp)]
  exists ev
  unfold S_law_6
  exists evw, ix0, ix1, B2, E2
  rw [szL_ok (by simp)]
  exists ev
  rw [cutZ_to _ (k := 2) (j := 2) rfl]
  simp only [List.take_succ_cons, List.take_zero]
  exists ev
  rw [rC _ _ _ rfl (gl _) (gl _)]
  exists evw, ne_self (d := .lst [.str (rl (gm bothN a b) y), .str (rl (gm eithN a b) y)]) (dep_ss [_, _])
  unfold S_law_7
  exists evw, ix0, ix1, U2, N2
  rw [szL_ok (by simp)]
  exists ev
  rw [cutZ_from _ (k := 2) (j := 2) rfl]
  simp only [List.drop_succ_cons, List.drop_zero]
  exists ev
  rw [rC _ _ _ rfl (gl _) nl]
  exists evw, ne_self (d := .lst [.str (rl (gm unlN a b) y), .str (rl (nm a) y)]) (dep_ss [_, _])
  unfold S_law_8
  have j0 : ∀ x y z w : Dt, atZ [x, y, z, w] 0 = some x := fun _ _ _ _ => rfl
  have j2 : ∀ x y z w : Dt, atZ [x, y, z, w] 2 = some z := fun _ _ _ _ => rfl
  exists evw, ix0, ix1, B3, U3
  rw [szL_ok (by simp)]
  exists evw, j0, j2, turned_is (l := gm bothN a b), turned_is (l := gm unlN a b)
  rw [szL_ok (by simp)]
  exists evw, ne_self (d := .lst [.str (gm bothN a b).reverse, .str (gm unlN a b).reverse]) (dep_ss [_, _])
  unfold S_law_9
  exists evw, ix0, turned_is (l := rl a y), R3, decide_true
  unfold S_law_10
  have W1 := windows_is (w := a) (n := n) h1 (by omega) (by omega)
  have W2 := windows_is (w := b) (n := n) h1 (by omega) (by omega)
  have W3 := windows_is (w := gm bothN a b) (n := n) h1 (by rw [gl]; omega) (by rw [gl]; omega)
  exists evw, W1, W2
  rw [ck_of (by simp)]
  exists ev
  unfold S_law_11
  obtain ⟨c10, c11, c12, e⟩ := loop0 (a := a) (b := b) (L := L) (n := n) (b0 := b0) (b1 := .val (.int (L : Nat))) (b3 := .val (.str b)) (b4 := .val (.int y)) (b5 := .val (.int (n : Nat))) (b6 := .val (.tup [.str (rl a y), .str (rl b y)])) (b7 := .val (.tup [.str a.reverse, .str b.reverse])) (b8 := .val (.lst [.str (gm bothN a b), .str (gm eithN a b), .str (gm unlN a b), .str (nm a)])) (b9 := .val (.tup [.lst ((wnd a n).map Dt.str), .lst ((wnd b n).map Dt.str)])) (b10 := b10) (b11 := b11) (b12 := b12) (b13 := b13) ha hb hL h1 h2
  exists evw, ix0, ix1, j0, W3, a_zn3, a_sqL, a_kM1, a_kM2
  rw [e]
  exists ev
  rw [s12 ha hb hL h1 h2 h3 h4]
theorem law_true (ns : List Int) (_ : ns.length ≤ 63) : F_law [.lst (ns.map Dt.int)] = .ok (.bl true) := by
  have p0 := pick_eq (ns := ns) (k := 0) (many := 12) (by decide) (by decide)
  have l0 := pickZ_lo ns 0 (many := 12) (by decide)
  have u0 := pickZ_hi ns 0 (many := 12) (by decide)
  have p1 := pick_eq (ns := ns) (k := 1) (many := 41) (by decide) (by decide)
  obtain ⟨L, hL⟩ : ∃ L : Nat, 1 + pickZ ns 0 12 = (L : Nat) := ⟨(1 + pickZ ns 0 12).toNat, by omega⟩
  have p2 := pick_eq (ns := ns) (k := 2) (many := (L : Nat)) (by decide) (by omega)
  have l2 := pickZ_lo ns 2 (many := (L : Nat)) (by omega)
  have u2 := pickZ_hi ns 2 (many := (L : Nat)) (by omega)
  obtain ⟨n, hn⟩ : ∃ n : Nat, 1 + pickZ ns 2 (L : Nat) = (n : Nat) := ⟨(1 + pickZ ns 2 (L : Nat)).toNat, by omega⟩
  have W := wave_eq (ns := ns) (a := 10) (many := (L : Nat)) (sg := [48, 49, 120]) (by decide) (by omega) (by omega) (by decide) (by decide)
  have wl := waveL_length ns 10 (many := (L : Nat)) [48, 49, 120] (by omega)
  have wm := waveL_mem ns 10 (L : Nat) (sg := [48, 49, 120]) (by decide)
  generalize waveL ns 10 (L : Nat) [48, 49, 120] = w at W wl wm
  have V := wave_eq (ns := ns) (a := 60) (many := (L : Nat)) (sg := [48, 49, 120]) (by decide) (by omega) (by omega) (by decide) (by decide)
  have vl := waveL_length ns 60 (many := (L : Nat)) [48, 49, 120] (by omega)
  have vm := waveL_mem ns 60 (L : Nat) (sg := [48, 49, 120]) (by decide)
  generalize waveL ns 60 (L : Nat) [48, 49, 120] = v at V vl vm
  show F_law [scr ns] = _
  unfold F_law B_law
  exists evw, p0, hL
  unfold S_law_1
  exists evw, W, V
  unfold S_law_2
  exists evw, p1, p2, hn
  rw [ck_of (by simp)]
  exists ev
  rw [s3 (by omega) (by omega) (by omega) (by omega) (by omega) (fun x hx => by have := wm x hx; simp at this; omega) (fun x hx => by have := vm x hx; simp at this; omega)]
  exists ev
end K98

end MacS
set_option Elab.async false
set_option linter.all false
set_option maxRecDepth 100000
/-! THE HAND LAYER, for ints, bools, texts, own classes, LISTS and tuples (index, slices, in, append, pop ..), calls, loops. Paste it whole ahead of your own text; what your proof does not reach may be deleted. -/
namespace L2
open PySem PySem.Spec PyProof.Rows

/-- a key: an int or a str -/
abbrev Key := Sum Int Str
def keyIs : Key → Value → Bool
  | .inl k, v => Value.isInt k v
  | .inr x, v => Value.isStrOf x v
def keyH (w : World) : Key → Int
  | .inl k => hashInt k
  | .inr x => hashStr w x
theorem keyIs_shape : ∀ {k : Key} {v : Value}, keyIs k v = true → (∃ i t, k = Sum.inl i ∧ v = Value.int i t) ∨ (∃ x t, k = Sum.inr x ∧ v = Value.str x t)
  | .inl i, v, h => by
    obtain ⟨t, e⟩ := Value.isInt_shape (k := i) (v := v) h
    exact .inl ⟨i, t, rfl, e⟩
  | .inr x, v, h => by
    obtain ⟨t, e⟩ := Value.isStrOf_shape (x := x) (v := v) h
    exact .inr ⟨x, t, rfl, e⟩
theorem key_ll (a b : Int) : decide ((Sum.inl a : Key) = Sum.inl b) = (a == b) := by
  by_cases e : a = b
  · subst e; simp
  · have h : ¬ (Sum.inl a : Key) = Sum.inl b := fun q => e (Sum.inl.inj q)
    rw [decide_eq_false h]
    exact (beq_eq_false_iff_ne.mpr e).symm
theorem key_rr (a b : Str) : decide ((Sum.inr a : Key) = Sum.inr b) = decide (a = b) := by
  by_cases e : a = b
  · subst e; simp
  · have h : ¬ (Sum.inr a : Key) = Sum.inr b := fun q => e (Sum.inr.inj q)
    rw [decide_eq_false h, decide_eq_false e]
theorem key_lr (a : Int) (b : Str) : decide ((Sum.inl a : Key) = Sum.inr b) = false := decide_eq_false (fun q => nomatch q)
theorem key_rl (a : Str) (b : Int) : decide ((Sum.inr a : Key) = Sum.inl b) = false := decide_eq_false (fun q => nomatch q)

def mixKind (prog : Program) (w : World) : PySem.KeyKind prog w Key where
  is := keyIs
  hash := keyH w
  inj := fun v a b ha hb => by
    rcases keyIs_shape ha with ⟨i, t, rfl, rfl⟩ | ⟨x, t, rfl, rfl⟩
    · rcases keyIs_shape hb with ⟨j, u, rfl, e⟩ | ⟨y, u, rfl, e⟩
      · injection e with e1 _; rw [e1]
      · exact nomatch e
    · rcases keyIs_shape hb with ⟨j, u, rfl, e⟩ | ⟨y, u, rfl, e⟩
      · exact nomatch e
      · injection e with e1 _; rw [e1]
  byValue := fun k v h => by
    rcases keyIs_shape h with ⟨i, t, rfl, rfl⟩ | ⟨x, t, rfl, rfl⟩ <;> rfl
  pyHash := fun hv h => by
    rcases keyIs_shape hv with ⟨i, t, rfl, rfl⟩ | ⟨x, t, rfl, rfl⟩
    · exact wpAny_pyHash_int h
    · exact wpAny_pyHash_str h
  eqBool := fun hu hv h => by
    rcases keyIs_shape hu with ⟨i, t, rfl, rfl⟩ | ⟨x, t, rfl, rfl⟩
    · rcases keyIs_shape hv with ⟨j, u, rfl, rfl⟩ | ⟨y, u, rfl, rfl⟩
      · rw [key_ll] at h; exact wpAny_eqBool_int h
      · rw [key_lr] at h; exact SeqAt.EqAt.int_str i t y u _ _ _ _ h
    · rcases keyIs_shape hv with ⟨j, u, rfl, rfl⟩ | ⟨y, u, rfl, rfl⟩
      · rw [key_rl] at h; exact SeqAt.EqAt.str_int x t j u _ _ _ _ h
      · rw [key_rr] at h; exact wpAny_eqBool_str h
  «strs» := fun k x t v h => by
    rcases keyIs_shape h with ⟨i, u, rfl, e⟩ | ⟨y, u, rfl, e⟩
    · exact nomatch e
    · injection e with e1 _
      subst e1
      cases v <;> rfl

end L2

namespace L2
open PySem PySem.Spec PyProof.Rows

/-- a value, without the heap -/
inductive V where
  | non | bl (b : Bool) | int (i : Int) | str (x : Str) | byt (b : Array UInt8) | flt (b : UInt64) | ref (a : Addr) | ty (n : String)
  deriving DecidableEq

def RelV : V → Value → Prop
  | .non, u => u = Value.none
  | .bl b, u => u = Value.bool b
  | .int i, u => ∃ t, u = Value.int i t
  | .str x, u => ∃ t, u = Value.str x t
  | .byt b, u => ∃ t, u = Value.bytes b t
  | .flt b, u => ∃ t, u = Value.float b t
  | .ref a, u => u = Value.ref a
  | .ty n, u => u = Value.type n

abbrev Vals : List V → List Value → Prop := Paired RelV
theorem Vals.length {xs : List V} {us : List Value} (r : Vals xs us) : xs.length = us.length := Paired.length r
theorem Vals.get : ∀ {xs : List V} {us : List Value} {i : Nat} {x : V}, Vals xs us → xs[i]? = some x → ∃ u, us[i]? = some u ∧ RelV x u
  | _, _, _, _, .nil, e => by simp at e
  | _, _, 0, _, .cons r _, e => by simp at e; subst e; exact ⟨_, rfl, r⟩
  | _, _, i + 1, x, .cons _ t, e => by
    obtain ⟨u, h1, h2⟩ := Vals.get (i := i) (x := x) t (by simpa using e)
    exact ⟨u, by simpa using h1, h2⟩
theorem Vals.set {x : V} {u : Value} (r : RelV x u) : ∀ {xs : List V} {us : List Value} (i : Nat), Vals xs us → Vals (xs.set i x) (us.set i u)
  | _, _, _, .nil => .nil
  | _, _, 0, .cons _ t => .cons r t
  | _, _, i + 1, .cons q t => .cons q (Vals.set r i t)
theorem Vals.append : ∀ {xs ys : List V} {us ws : List Value}, Vals xs us → Vals ys ws → Vals (xs ++ ys) (us ++ ws)
  | _, _, _, _, .nil, s => s
  | _, _, _, _, .cons r t, s => .cons r (Vals.append t s)
theorem Vals.take : ∀ {xs : List V} {us : List Value} (n : Nat), Vals xs us → Vals (xs.take n) (us.take n)
  | _, _, 0, _ => .nil
  | _, _, _ + 1, .nil => .nil
  | _, _, n + 1, .cons r t => .cons r (Vals.take n t)
theorem Vals.drop : ∀ {xs : List V} {us : List Value} (n : Nat), Vals xs us → Vals (xs.drop n) (us.drop n)
  | _, _, 0, r => r
  | _, _, _ + 1, .nil => .nil
  | _, _, n + 1, .cons _ t => Vals.drop n t
def RelO : Option V → Option Value → Prop
  | some v, some u => RelV v u
  | none, none => True
  | _, _ => False
def KV {κ : Type} : List (κ × V) → List (κ × Value) → Prop := Paired fun (p : κ × V) (q : κ × Value) => p.1 = q.1 ∧ RelV p.2 q.2

/-- a key of a dict (00_mix): an int or a text -/
def kV : Key → V
  | .inl i => .int i
  | .inr x => .str x

/-- what stands at a tracked address -/
inductive HO where
  /-- a list -/
  | lst (xs : List V)
  /-- a tuple (never changes) -/
  | tup (xs : List V)
  /-- a dict whose keys are ints and texts; one whose keys are tuples of ints and texts (the empty one is both) -/
  | dK (kvs : List (Key × V)) | dT (kvs : List (List Key × V))
  /-- a set of ints: its members, its size -/
  | set (S : Int → Bool) (n : Nat)
  /-- an instance of the class at C, its dict at dx, its attributes -/
  | ins (C dx : Addr) (fs : List (Str × V))
  /-- the dict of the instance at x -/
  | own (x : Addr)
  /-- the dict of an exception -/
  | xd (fs : List (Str × V))
  /-- a bound method, f of x -/
  | met (f x : Addr)
  /-- a range object lo, lo + 1, .. below hi -/
  | rng (lo hi : Int)
  /-- a thing that is known to the object (the script; a dict while a loop walks it): read, never written while it is so -/
  | frz (o : Obj) (u : HO)
  /-- a code object's table -/
  | tbl (q : Str)
  /-- any other thing, by what is true of its one object (a def of one's own: SetO a S n := HO.ext fun h => ..) -/
  | ext (φ : Heap → Prop)

abbrev Hp := Addr → Option HO
def upd (H : Hp) (a : Addr) (o : HO) : Hp := fun b => if b = a then some o else H b
theorem upd_same {H : Hp} {a : Addr} {o : HO} : upd H a o a = some o := by unfold upd; rw [if_pos rfl]
theorem upd_ne {H : Hp} {a b : Addr} {o : HO} (h : b ≠ a) : upd H a o b = H b := by unfold upd; rw [if_neg h]
theorem ne_of_none {H : Hp} {a b : Addr} {o : HO} (h : H a = some o) (h' : H b = none) : a ≠ b := by
  intro e; subst e; rw [h] at h'; cases h'

section
variable (P : Program) (w : World)
def ObjOk (H : Hp) (h : Heap) (a : Addr) : HO → Prop
  | .lst xs => xs.length ≤ sizeLine ∧ ∃ (its : List Value) (n : Nat), Vals xs its ∧ h.get? a = some { cls := .type "list", data := .seq its.toArray n }
  | .tup xs => xs.length ≤ sizeLine ∧ ∃ its : List Value, Vals xs its ∧ IsTup h a its.toArray
  | .dK kvs => kvs.length ≤ sizeLine ∧ (a == sysModules) = false ∧ ∃ vs, KV kvs vs ∧ h.DictOf (mixKind P w) a vs
  | .dT kvs => kvs.length ≤ sizeLine ∧ (a == sysModules) = false ∧ ∃ xs : List (List Key × Addr × Value),
      Paired (fun (p : List Key × V) (q : List Key × Addr × Value) => p.1 = q.1 ∧ H q.2.1 = some (.tup (p.1.map kV)) ∧ RelV p.2 q.2.2) kvs xs ∧
      ∃ o es ep, h.get? a = some o ∧ o.ExactDict ∧ o.data = .dict es ep ∧ es.toList = xs.map (entryOfKey (tupleKind (mixKind P w))) ∧ (xs.map (·.1)).Nodup
  | .set S n => h.SetOf (intKind P w) a S n
  | .ins C dx fs => H dx = some (.own a) ∧ fs.length ≤ 1000 ∧ dx ≠ a ∧ h.get? a = some (PySem.W.instObj C dx) ∧
      ∃ mA, h.Ns1 dx mA ∧ (∀ f, RelO (fs.lookup f) (mA f)) ∧ PySem.Within mA (fs.map (·.1))
  | .own _ => ∃ o, h.get? a = some o
  | .xd fs => ∃ mA, h.Ns1 a mA ∧ ∀ f, RelO (fs.lookup f) (mA f)
  | .rng lo hi => ∃ t u v, h.get? a = some { cls := .type "range", data := .fields #[.int lo t, .int hi u, .int 1 v] }
  | .frz o u => h.get? a = some o ∧ ObjOk H h a u
  | .tbl q => ∃ ps : Array Value, h.get? a = some { cls := .none, data := .fields ps } ∧ TriplesOk ps.toList ∧ ∀ pos cv, codeAmong pos ps.toList = some cv → ∃ c oc u, cv = .ref c ∧ H c = some (.frz oc u) ∧ ∃ vs t, oc.data = .fields vs ∧ vs[1]? = some (.str q t)
  | .met f x => h.get? a = some (PySem.W.methodObj (.ref f) (.ref x))
  | .ext φ => φ h ∧ (∃ o, h.get? a = some o) ∧ ∀ h1 h2 : Heap, φ h1 → (∀ o, h1.get? a = some o → h2.get? a = some o) → φ h2
/-- the abstract heap is held -/
def HOk (H : Hp) (h : Heap) : Prop := ∀ a o, H a = some o → ObjOk P w H h a o
end

section
variable {P : Program} {w : World} {H H' : Hp} {h h' : Heap} {a : Addr} {o : HO}
theorem ObjOk.lt (x : ObjOk P w H h a o) : a < h.objs.size := by
  cases o with
  | lst xs => obtain ⟨_, _, _, _, e⟩ := x; exact Heap.lt_size e
  | tup xs => obtain ⟨_, _, _, p⟩ := x; exact p.lt
  | dK kvs => obtain ⟨_, _, _, _, o, _, _, e, _⟩ := x; exact Heap.lt_size e
  | dT kvs => obtain ⟨_, _, _, _, o, _, _, e, _⟩ := x; exact Heap.lt_size e
  | set S n => obtain ⟨o, _, _, _, e, _⟩ := x; exact Heap.lt_size e
  | ins C dx fs => obtain ⟨_, _, _, e, _⟩ := x; exact Heap.lt_size e
  | own y => obtain ⟨_, e⟩ := x; exact Heap.lt_size e
  | xd fs => obtain ⟨_, ⟨_, _, _, e, _⟩, _⟩ := x; exact Heap.lt_size e
  | rng lo hi => obtain ⟨_, _, _, e⟩ := x; exact Heap.lt_size e
  | frz ob u => obtain ⟨e, _⟩ := x; exact Heap.lt_size e
  | tbl q => obtain ⟨ps, e, _⟩ := x; exact Heap.lt_size e
  | met f y => exact Heap.lt_size (show h.get? a = some _ from x)
  | ext φ => obtain ⟨_, ⟨_, e⟩, _⟩ := x; exact Heap.lt_size e
theorem Paired.mapP {α β : Type} {F G : α → β → Prop} : ∀ {l₁ : List α} {l₂ : List β}, Paired F l₁ l₂ → (∀ a b, F a b → G a b) → Paired G l₁ l₂
  | _, _, .nil, _ => .nil
  | _, _, .cons r t, f => .cons (f _ _ r) (Paired.mapP t f)
/-- what an object's description leans on: its own object, its own dict, the tuples -/
theorem ObjOk.stay (x : ObjOk P w H h a o) (k : ∀ b u, (b = a ∨ H b = some (.own a)) → h.get? b = some u → h'.get? b = some u)
    (ho : ∀ b, H b = some (.own a) → H' b = some (.own a)) (ht : ∀ b xs, H b = some (.tup xs) → H' b = some (.tup xs)) (hf : ∀ b ob u, H b = some (.frz ob u) → H' b = some (.frz ob u) := by exact fun _ _ _ q => q) : ObjOk P w H' h' a o := by
  induction o with
  | lst xs => obtain ⟨z, its, n, r, e⟩ := x; exact ⟨z, its, n, r, k _ _ (.inl rfl) e⟩
  | tup xs => obtain ⟨z, its, r, ob, e, c⟩ := x; exact ⟨z, its, r, ob, k _ _ (.inl rfl) e, c⟩
  | dK kvs => obtain ⟨z, y, vs, r, ob, es, ep, e, c⟩ := x; exact ⟨z, y, vs, r, ob, es, ep, k _ _ (.inl rfl) e, c⟩
  | dT kvs =>
    obtain ⟨z, y, xs, r, ob, es, ep, e, c⟩ := x
    exact ⟨z, y, xs, Paired.mapP r fun p q z => ⟨z.1, ht _ _ z.2.1, z.2.2⟩, ob, es, ep, k _ _ (.inl rfl) e, c⟩
  | set S n => obtain ⟨ob, es, ep, t, e, c⟩ := x; exact ⟨ob, es, ep, t, k _ _ (.inl rfl) e, c⟩
  | ins C dx fs =>
    obtain ⟨d, z, ne, e, mA, ⟨od, es, ep, e2, c⟩, r⟩ := x
    exact ⟨ho _ d, z, ne, k _ _ (.inl rfl) e, mA, ⟨od, es, ep, k _ _ (.inr d) e2, c⟩, r⟩
  | own y => obtain ⟨ob, e⟩ := x; exact ⟨ob, k _ _ (.inl rfl) e⟩
  | xd fs => obtain ⟨mA, ⟨od, es, ep, e, c⟩, r⟩ := x; exact ⟨mA, ⟨od, es, ep, k _ _ (.inl rfl) e, c⟩, r⟩
  | rng lo hi => obtain ⟨t, u, v, e⟩ := x; exact ⟨t, u, v, k _ _ (.inl rfl) e⟩
  | frz ob u ih => obtain ⟨e, q⟩ := x; exact ⟨k _ _ (.inl rfl) e, ih q⟩
  | tbl q =>
    obtain ⟨ps, e, t, g⟩ := x
    exact ⟨ps, k a _ (.inl rfl) e, t, fun pos cv z => by
      obtain ⟨c, oc, u, z1, z2, z3⟩ := g pos cv z
      exact ⟨c, oc, u, z1, hf _ _ _ z2, z3⟩⟩
  | met f y =>
    have e : h.get? a = some (PySem.W.methodObj (.ref f) (.ref y)) := x
    show h'.get? a = some (PySem.W.methodObj (.ref f) (.ref y))
    exact k a _ (.inl rfl) e
  | ext φ => obtain ⟨p, ⟨o, e⟩, st⟩ := x; exact ⟨st _ _ p fun o q => k _ _ (.inl rfl) q, ⟨o, k _ _ (.inl rfl) e⟩, st⟩
theorem HOk.lt (x : HOk P w H h) (e : H a = some o) : a < h.objs.size := (x a o e).lt
theorem HOk.fresh (x : HOk P w H h) (e : h.objs.size ≤ a) : H a = none := by
  cases q : H a with
  | none => rfl
  | some u => exact absurd (Nat.lt_of_lt_of_le (x.lt q) e) (Nat.lt_irrefl _)
/-- every object of the heap is kept -/
theorem HOk.kept (x : HOk P w H h) (k : ∀ b u, h.get? b = some u → h'.get? b = some u) : HOk P w H h' := fun a o e =>
  (x a o e).stay (fun b u _ q => k b u q) (fun _ q => q) fun _ _ q => q
/-- a new object is laid and tracked -/
theorem HOk.laid (x : HOk P w H h) (k : ∀ b u, h.get? b = some u → h'.get? b = some u) (hp : h.objs.size ≤ a) (new : ObjOk P w (upd H a o) h' a o) : HOk P w (upd H a o) h' := fun b u e => by
  have hn := x.fresh hp
  by_cases hb : b = a
  · subst hb; rw [upd_same] at e; cases e; exact new
  · rw [upd_ne hb] at e
    exact (x b u e).stay (fun c v _ q => k c v q) (fun c q => by rw [upd_ne (ne_of_none q hn)]; exact q) (fun c xs q => by rw [upd_ne (ne_of_none q hn)]; exact q) fun c _ _ q => by rw [upd_ne (ne_of_none q hn)]; exact q
end

/-- what may be read as u: it is u, or a known u -/
def Rd (H : Hp) (a : Addr) (u : HO) : Prop := H a = some u ∨ ∃ o, H a = some (.frz o u)
theorem Rd.of {H : Hp} {a : Addr} {u : HO} (h : H a = some u) : Rd H a u := .inl h
theorem Rd.ok {P : Program} {w : World} {H : Hp} {h : Heap} {a : Addr} {u : HO} (r : Rd H a u) (x : HOk P w H h) : ObjOk P w H h a u := by
  rcases r with r | ⟨o, r⟩
  · exact x a u r
  · obtain ⟨_, q⟩ := x a _ r
    exact q
/-- what may be written -/
def Mut : Option HO → Prop
  | some (.lst _) => True
  | some (.dK _) => True
  | some (.dT _) => True
  | some (.set _ _) => True
  | some (.ins _ _ _) => True
  | some (.ext _) => True
  | _ => False
section
variable {P : Program} {w : World} {H : Hp} {h h' : Heap} {x e : Addr} {o' : HO}
/-- the object at e is changed: x itself, or the dict of the instance x -/
theorem HOk.write (ok : HOk P w H h) (mu : Mut (H x)) (he : e = x ∨ H e = some (.own x)) (k : ∀ b u, b ≠ e → h.get? b = some u → h'.get? b = some u) (heo : ∃ u, h'.get? e = some u)
    (new : ObjOk P w (upd H x o') h' x o') : HOk P w (upd H x o') h' := fun b u q => by
  have nown : ∀ c y, H c = some (.own y) → c ≠ x := fun c y r z => by subst z; rw [r] at mu; exact mu
  have ntup : ∀ c xs, H c = some (.tup xs) → c ≠ x := fun c xs r z => by subst z; rw [r] at mu; exact mu
  have nfrz : ∀ c ob v, H c = some (.frz ob v) → c ≠ x := fun c ob v r z => by subst z; rw [r] at mu; exact mu
  by_cases hb : b = x
  · subst hb; rw [upd_same] at q; cases q; exact new
  · rw [upd_ne hb] at q
    by_cases hbe : b = e
    · have q' : H b = some (.own x) := by
        rcases he with z | z
        · exact absurd (hbe.trans z) hb
        · rw [hbe]; exact z
      rw [q] at q'; cases q'
      obtain ⟨v, hv⟩ := heo
      exact ⟨v, by rw [hbe]; exact hv⟩
    · refine (ok b u q).stay (fun c v hc r => k c v ?_ r) (fun c r => by rw [upd_ne (nown c b r)]; exact r) (fun c xs r => by rw [upd_ne (ntup c xs r)]; exact r) fun c ob v r => by rw [upd_ne (nfrz c ob v r)]; exact r
      rcases hc with rfl | hc
      · exact hbe
      · rintro rfl
        rcases he with z | z
        · exact nown c b hc z
        · rw [hc] at z; cases z; exact hb rfl
end

/-! ### kept unless tracked; of the frames at fs (the callers') the slots may change (an exception that passes writes there); of the records at ex (iterators) nothing is said -/
structure Un (fs ex : List Addr) (H H' : Hp) (h h' : Heap) : Prop where
  keep : ∀ b o, h.get? b = some o → H b = none → b ∉ fs → b ∉ ex → h'.get? b = some o
  slot : ∀ b o, h.get? b = some o → H b = none → b ∈ fs → b ∉ ex → ∃ sl, h'.get? b = some { o with slots := sl }
  free : ∀ b o, h.get? b = some o → H b = none → b ∉ ex → H' b = none
  there : ∀ b o, h.get? b = some o → b ∉ ex → ∃ o', h'.get? b = some o'
  tups : ∀ b xs, H b = some (.tup xs) → H' b = some (.tup xs)
  frzs : ∀ b o u, H b = some (.frz o u) → H' b = some (.frz o u)
  tbls : ∀ b q, H b = some (.tbl q) → H' b = some (.tbl q)
section
variable {fs fs' ex ex' : List Addr} {H H1 H2 : Hp} {h h1 h2 h' : Heap} {a x e : Addr} {o : HO}
theorem Un.any (u : Un fs ex H H1 h h1) {b : Addr} {ob : Obj} (q : h.get? b = some ob) (n : H b = none) (hx : b ∉ ex) : ∃ sl, h1.get? b = some { ob with slots := sl } := by
  by_cases hb : b ∈ fs
  · exact u.slot b ob q n hb hx
  · exact ⟨ob.slots, u.keep b ob q n hb hx⟩
theorem Un.trans (a : Un fs ex H H1 h h1) (b : Un fs ex H1 H2 h1 h2) : Un fs ex H H2 h h2 where
  keep := fun c ob q n hc hx => b.keep c ob (a.keep c ob q n hc hx) (a.free c ob q n hx) hc hx
  slot := fun c ob q n hc hx => by
    obtain ⟨sl, e1⟩ := a.slot c ob q n hc hx
    obtain ⟨sl', e2⟩ := b.slot c _ e1 (a.free c ob q n hx) hc hx
    exact ⟨sl', e2⟩
  free := fun c ob q n hx => by
    obtain ⟨o', e1⟩ := a.there c ob q hx
    exact b.free c o' e1 (a.free c ob q n hx) hx
  there := fun c ob q hx => by
    obtain ⟨o', e1⟩ := a.there c ob q hx
    exact b.there c o' e1 hx
  tups := fun c xs q => b.tups c xs (a.tups c xs q)
  frzs := fun c ob xs q => b.frzs c ob xs (a.frzs c ob xs q)
  tbls := fun c n q => b.tbls c n (a.tbls c n q)
theorem Un.kept (k : ∀ b u, h.get? b = some u → h'.get? b = some u) : Un fs ex H H h h' :=
  ⟨fun b ob q _ _ _ => k b ob q, fun b ob q _ _ _ => ⟨ob.slots, k b ob q⟩, fun _ _ _ n _ => n, fun b ob q _ => ⟨ob, k b ob q⟩, fun _ _ q => q, fun _ _ _ q => q, fun _ _ q => q⟩
theorem Un.refl : Un fs ex H H h h := Un.kept fun _ _ q => q
theorem Un.laid (k : ∀ b u, h.get? b = some u → h'.get? b = some u) (hp : h.objs.size ≤ a) (hn : H a = none) : Un fs ex H (upd H a o) h h' where
  keep := fun b u q _ _ _ => k b u q
  slot := fun b u q _ _ _ => ⟨u.slots, k b u q⟩
  free := fun b u q n _ => by rw [upd_ne (Nat.ne_of_lt (Nat.lt_of_lt_of_le (Heap.lt_size q) hp))]; exact n
  there := fun b u q _ => ⟨u, k b u q⟩
  tups := fun b xs q => by rw [upd_ne (ne_of_none q hn)]; exact q
  frzs := fun b u xs q => by rw [upd_ne (ne_of_none q hn)]; exact q
  tbls := fun b n q => by rw [upd_ne (ne_of_none q hn)]; exact q
theorem Un.write (mu : Mut (H x)) (he : e = x ∨ H e = some (.own x)) (k : ∀ b u, b ≠ e → h.get? b = some u → h'.get? b = some u) (heo : ∃ u, h'.get? e = some u) : Un fs ex H (upd H x o) h h' := by
  have hx : ∀ b, H b = none → b ≠ x := fun b n z => by subst z; rw [n] at mu; exact mu
  have hb : ∀ b, H b = none → b ≠ e := fun b n z => by
    subst z
    rcases he with r | r
    · exact hx b n r
    · rw [n] at r; cases r
  have hm : ∀ b u, H b = some u → ¬ Mut (some u) → b ≠ x := fun b u q nm z => by subst z; rw [q] at mu; exact nm mu
  refine ⟨fun b u q n _ _ => k b u (hb b n) q, fun b u q n _ _ => ⟨u.slots, k b u (hb b n) q⟩, fun b u q n _ => by rw [upd_ne (hx b n)]; exact n, fun b u q _ => ?_,
    fun b xs q => by rw [upd_ne (hm b _ q fun z => z)]; exact q, fun b u xs q => by rw [upd_ne (hm b _ q fun z => z)]; exact q, fun b n q => by rw [upd_ne (hm b _ q fun z => z)]; exact q⟩
  by_cases hbe : b = e
  · subst hbe; exact heo
  · exact ⟨u, k b u hbe q⟩
theorem Un.mono (u : Un fs ex H H1 h h1) (hs : ∀ b ∈ fs, b ∈ fs') (hx : ∀ b ∈ ex, b ∈ ex') : Un fs' ex' H H1 h h1 :=
  ⟨fun b ob q n hb he => u.keep b ob q n (fun z => hb (hs b z)) fun z => he (hx b z), fun _ _ q n _ he => u.any q n fun z => he (hx _ z), fun b ob q n he => u.free b ob q n fun z => he (hx b z), fun b ob q he => u.there b ob q fun z => he (hx b z), u.tups, u.frzs, u.tbls⟩
end

/-! ### the heap without what is tracked -/
def trk (h : Heap) (H : Hp) : List Addr := (List.range h.objs.size).filter fun a => (H a).isSome
def hidT (h : Heap) (H : Hp) : Heap := PySem.W.hideAll h (trk h H)
theorem hidT_size (h : Heap) (H : Hp) : (hidT h H).objs.size = h.objs.size := PySem.W.hideAll_size _ _
theorem hidT_get {h : Heap} {H : Hp} {b : Addr} {o : Obj} (e : h.get? b = some o) (n : H b = none) : (hidT h H).get? b = some o :=
  PySem.W.hideAll_get _ e fun hm => by
    have q : (H b).isSome = true := (List.mem_filter.mp hm).2
    rw [n] at q; simp at q
theorem of_hidT {h : Heap} {H : Hp} {b : Addr} {o : Obj} (e : (hidT h H).get? b = some o) : h.get? b = some o ∧ H b = none := by
  have e' : h.get? b = some o := PySem.W.of_hideAll (trk h H) e
  refine ⟨e', ?_⟩
  cases q : H b with
  | none => rfl
  | some x =>
    have hm : b ∈ trk h H := List.mem_filter.mpr ⟨List.mem_range.mpr (Heap.lt_size e'), by simp [q]⟩
    have z : (hidT h H).get? b = none := PySem.W.hideAll_none (trk h H) hm
    rw [z] at e; cases e

/-! ### OpenK's ledger, filled with every new object but one -/
def allNews (g h : Heap) (L : Addr) : List (Addr × Obj) := (List.range h.objs.size).filterMap fun a => if a = L ∨ (g.get? a).isSome = true then none else (h.get? a).map fun o => (a, o)
def rest (g h : Heap) (L d : Addr) : List (Addr × Obj) := (allNews g h L).filter fun p => decide (p.1 ≠ d)
end L2

namespace L2
open PySem PySem.Spec PyProof.Rows

/-- the module's facts, over the base: the heap at the law's entry without what is tracked there -/
structure Mod (K : PySem.W.Frag) (mg : Str → Option Value) (base : Heap) : Prop where
  kin : K.In base
  glob : base.Ns mainGlobals mg
  blt : ∃ mb, base.Ns builtinsNs mb ∧ ∀ x : Str, x ≠ "__name__" → mb x = bootBuiltins x
  nolimit : base.NoLimit

/-- the context: a def's body (or a comprehension's block) running. base: fixed through the whole law; s₀, H₀: the entry; outer: the frames whose slots others may change (a def's callers); stack: all frames that run;
   ex: iterators that were made ahead of the entry and are walked here (a comprehension's); fn: the names whose cells were made at the entry (a def: all; a comprehension's block: its own); calm: not within an except suite; pn: pins that every state bears; xe: what is wanted of an exception that leaves the code -/
structure Cx where
  prog : Program
  w : World
  K : PySem.W.Frag
  mg : Str → Option Value
  base : Heap
  A : Around
  N : List Str
  s₀ : Shared
  H₀ : Hp
  env : Env
  outer : List Env
  stack : List Env
  ex : List Addr
  fn : Str → Bool
  calm : Bool
  pn : List (Addr × Obj)
  xe : Value → Shared → Prop
/-- the callers' frames -/
def frs (l : List Env) : List Addr := l.filterMap (·.frame)
abbrev Cx.fs (X : Cx) : List Addr := frs X.outer

def Vis (sc : Scope) (x : Str) : Prop := sc.names.lookup x = some .local ∨ sc.names.lookup x = some .cell ∨ sc.names.lookup x = some .free
def Loc (sc : Scope) (x : Str) : Prop := sc.names.lookup x = some .local ∨ sc.names.lookup x = some .cell
def Look (env : Env) (h : Heap) (m : Str → Option Value) (x : Str) (u : Value) : Prop :=
  (env.kindOf x = some .local ∧ m x = some u) ∨ ((env.kindOf x = some .cell ∨ env.kindOf x = some .free) ∧ ∃ c, env.cells.lookup x = some c ∧ h.IsCell c (some u))

structure Cx.Ok (X : Cx) : Prop where
  mod : Mod X.K X.mg X.base
  kind : X.env.scope.kind = .function
  glob : X.env.globals = mainGlobals
  blt : X.env.builtins = builtinsNs
  above : X.s₀.heap.objs.size ≤ X.env.locals
  inj : ∀ x y c, X.env.cells.lookup x = some c → X.env.cells.lookup y = some c → x = y
  has : ∀ x, (X.env.kindOf x = some .cell ∨ X.env.kindOf x = some .free) → ∃ c, X.env.cells.lookup x = some c
  cab : ∀ x c, X.fn x = true → X.env.cells.lookup x = some c → X.s₀.heap.objs.size ≤ c
  hd : X.calm = true → X.A.handled = none
  frames : X.A.frames = some X.stack
  stk : X.stack = X.outer ∨ (X.stack = X.env :: X.outer ∧ X.env.frame = some X.env.locals)
  exf : ∀ b ∈ X.ex, b ≠ X.env.locals ∧ ∀ x c, X.env.cells.lookup x = some c → c ≠ b
  bs : ∀ b o, X.base.get? b = some o → X.s₀.heap.get? b = some o ∧ X.H₀ b = none
  bsz : X.base.objs.size ≤ X.s₀.heap.objs.size
  noex : ∀ b o, X.base.get? b = some o → b ∉ X.ex
  exfs : ∀ b ∈ X.ex, b ∉ X.fs
  funs : X.s₀.heap.FunFrames X.base X.outer
  frf : ∀ b ∈ X.fs, X.H₀ b = none

structure Inv (X : Cx) (pins : List (Addr × Obj)) (σ : List (Option V)) (H : Hp) (s : Shared) : Prop where
  ok : X.Ok
  os : s.os = X.s₀.os
  bare : AllBare s.gens
  base : Un X.fs X.ex X.H₀ H X.s₀.heap s.heap
  loc : ∃ m, s.heap.Ns X.env.locals m ∧ ∀ (i : Nat) (x : Str) (v : V), X.N[i]? = some x → σ[i]? = some (some v) → Vis X.env.scope x → ∃ u, RelV v u ∧ Look X.env s.heap m x u
  cell : ∀ x c, X.env.cells.lookup x = some c → ∃ v, s.heap.IsCell c v
  free : H X.env.locals = none
  freeC : ∀ x c, X.env.cells.lookup x = some c → H c = none
  pin : ∀ p ∈ X.pn ++ pins, s.heap.get? p.1 = some p.2 ∧ H p.1 = none ∧ p.1 ≠ X.env.locals ∧ p.1 ∉ X.fs ∧ ∀ v, p.2.data ≠ .cell v
  hok : HOk X.prog X.w H s.heap
  len : σ.length = X.N.length

section
variable {X : Cx} {pins : List (Addr × Obj)} {σ : List (Option V)} {H H' : Hp} {s : Shared} {h' : Heap}

theorem Cx.Ok.nofr (ok : X.Ok) {b : Addr} {o : Obj} (e : X.base.get? b = some o) : b ∉ X.fs := fun hb => by
  have := (ok.funs.mem hb).1
  rw [e] at this; cases this
theorem Inv.bs (I : Inv X pins σ H s) : ∀ b o, X.base.get? b = some o → s.heap.get? b = some o ∧ H b = none := fun b o e =>
  ⟨I.base.keep b o (I.ok.bs b o e).1 (I.ok.bs b o e).2 (I.ok.nofr e) (I.ok.noex b o e), I.base.free b o (I.ok.bs b o e).1 (I.ok.bs b o e).2 (I.ok.noex b o e)⟩
theorem Inv.bk (I : Inv X pins σ H s) : ∀ b o, X.base.get? b = some o → s.heap.get? b = some o := fun b o e => (I.bs b o e).1
theorem Inv.mod (I : Inv X pins σ H s) : Mod X.K X.mg X.base := I.ok.mod
theorem Inv.kIn (I : Inv X pins σ H s) : X.K.In s.heap := I.ok.mod.kin.keeps I.bk
theorem Inv.nolimit (I : Inv X pins σ H s) : s.heap.NoLimit := I.ok.mod.nolimit.keeps I.bk
/-- the frame over the base: for OpenK's rules (K.In X.base is I.mod.kin) -/
theorem Inv.fr (I : Inv X pins σ H s) : ∃ m, Fr X.base X.env.locals s.heap m :=
  let ⟨m, hn, _⟩ := I.loc
  ⟨m, hn, I.bk, Nat.le_trans I.ok.bsz I.ok.above⟩
theorem Inv.lt (I : Inv X pins σ H s) : X.env.locals < s.heap.objs.size := let ⟨_, hn, _⟩ := I.loc; hn.lt
theorem Inv.sz (I : Inv X pins σ H s) : X.s₀.heap.objs.size ≤ s.heap.objs.size := Nat.le_trans I.ok.above (Nat.le_of_lt I.lt)
theorem Inv.nofs (I : Inv X pins σ H s) {a : Addr} (h : s.heap.objs.size ≤ a) : a ∉ X.fs := fun hb => by
  obtain ⟨_, o, ho, _⟩ := I.ok.funs.mem hb
  exact absurd (Nat.lt_of_lt_of_le (Heap.lt_size ho) (Nat.le_trans I.sz h)) (Nat.lt_irrefl _)
theorem Inv.cne (I : Inv X pins σ H s) : ∀ x c, X.env.cells.lookup x = some c → c ≠ X.env.locals := fun x c e z => by
  obtain ⟨v, o, ho, hd⟩ := I.cell x c e
  obtain ⟨m, ⟨o', es, ep, ho', hd', _⟩, _⟩ := I.loc
  rw [z, ho'] at ho; cases ho; rw [hd'] at hd; cases hd
theorem Inv.funs (I : Inv X pins σ H s) : s.heap.FunFrames X.base X.outer := by
  have all : ∀ (l : List Env), (∀ b ∈ frs l, b ∈ X.fs) → X.s₀.heap.FunFrames X.base l → s.heap.FunFrames X.base l := by
    intro l
    induction l with
    | nil => intro _ _; trivial
    | cons env r ih =>
      intro hs hl
      obtain ⟨hk, ⟨L, o, hf, hn, ho, hd⟩, hr⟩ := hl
      have hL : L ∈ X.fs := hs L (by unfold frs; rw [List.filterMap_cons, hf]; exact List.mem_cons_self)
      obtain ⟨sl, e⟩ := I.base.slot L o ho (I.ok.frf L hL) hL fun z => I.ok.exfs L z hL
      exact ⟨hk, ⟨L, _, hf, hn, e, hd⟩, ih (fun b hb => hs b (by unfold frs; rw [List.filterMap_cons, hf]; exact List.mem_cons_of_mem _ hb)) hr⟩
  exact all X.outer (fun _ hb => hb) I.ok.funs

/-- the frames that run, for a call -/
theorem Inv.stack (I : Inv X pins σ H s) : s.heap.FunFrames X.base X.stack := by
  rcases I.ok.stk with e | ⟨e, hf⟩
  · rw [e]; exact I.funs
  · rw [e]
    obtain ⟨m, hn, _⟩ := I.loc
    refine .cons (by rw [I.ok.kind]; decide) hf hn ?_ I.funs
    exact Heap.get?_none_of_le (Nat.le_trans I.ok.bsz I.ok.above)
theorem Inv.stkSub (I : Inv X pins σ H s) : ∀ b ∈ frs X.stack, b ∈ X.env.locals :: X.fs := fun b hb => by
  rcases I.ok.stk with e | ⟨e, hf⟩
  · rw [e] at hb; exact List.mem_cons_of_mem _ hb
  · rw [e] at hb
    unfold frs at hb
    rw [List.filterMap_cons, hf] at hb
    exact hb
theorem Inv.stkFree (I : Inv X pins σ H s) : ∀ b ∈ frs X.stack, H b = none := fun b hb => by
  rcases List.mem_cons.mp (I.stkSub b hb) with e | hb
  · rw [e]; exact I.free
  · obtain ⟨_, o, ho, _⟩ := I.ok.funs.mem hb
    exact I.base.free b o ho (I.ok.frf b hb) fun z => I.ok.exfs b z hb

/-- THE STEP: the untracked objects but the frame and the records at ch are kept (the callers' frames up to slots), the frame's map is kept, the new abstract heap is held -/
theorem Inv.step {g' : Array GenState} {t' : Nat} {d' : Drawn} {ch : List Addr} (I : Inv X pins σ H s)
    (hch : ∀ b ∈ ch, (b ∈ X.ex ∨ X.s₀.heap.objs.size ≤ b) ∧ b ≠ X.env.locals ∧ (∀ x c, X.env.cells.lookup x = some c → c ≠ b) ∧ ∀ p ∈ X.pn ++ pins, p.1 ≠ b)
    (keep : ∀ b o, b ≠ X.env.locals → b ∉ X.fs → b ∉ ch → s.heap.get? b = some o → H b = none → h'.get? b = some o)
    (slot : ∀ b o, b ≠ X.env.locals → b ∈ X.fs → b ∉ ch → s.heap.get? b = some o → H b = none → ∃ sl, h'.get? b = some { o with slots := sl }) (free : ∀ b o, b ∉ ch → s.heap.get? b = some o → H b = none → H' b = none)
    (there : ∀ b o, b ∉ ch → s.heap.get? b = some o → ∃ o', h'.get? b = some o')
    (tups : ∀ b xs, H b = some (.tup xs) → H' b = some (.tup xs)) (frzs : ∀ b o u, H b = some (.frz o u) → H' b = some (.frz o u)) (tbls : ∀ b q, H b = some (.tbl q) → H' b = some (.tbl q))
    (ns : ∀ m, s.heap.Ns X.env.locals m → h'.Ns X.env.locals m) (hok : HOk X.prog X.w H' h') (hg : AllBare g') :
    Inv X pins σ H' { s with heap := h', gens := g', drawn := d', toks := t' } := by
  have neL : ∀ b o, X.s₀.heap.get? b = some o → b ≠ X.env.locals := fun b o e => Nat.ne_of_lt (Nat.lt_of_lt_of_le (Heap.lt_size e) I.ok.above)
  have neC : ∀ b o, X.s₀.heap.get? b = some o → b ∉ X.ex → b ∉ ch := fun b o e hx hb => by
    rcases (hch b hb).1 with z | z
    · exact hx z
    · exact absurd (Nat.lt_of_lt_of_le (Heap.lt_size e) z) (Nat.lt_irrefl _)
  have cellK : ∀ x c, X.env.cells.lookup x = some c → ∀ v, s.heap.IsCell c v → h'.IsCell c v := fun x c e v ⟨o, ho, hd⟩ => by
    have nch : c ∉ ch := fun z => (hch c z).2.2.1 x c e rfl
    by_cases hc : c ∈ X.fs
    · obtain ⟨sl, q⟩ := slot c o (I.cne x c e) hc nch ho (I.freeC x c e)
      exact ⟨_, q, hd⟩
    · exact ⟨o, keep c o (I.cne x c e) hc nch ho (I.freeC x c e), hd⟩
  refine ⟨I.ok, I.os, hg, ⟨fun b o e n hb hx => ?_, fun b o e n hb hx => ?_, fun b o e n hx => ?_, fun b o e hx => ?_, fun b xs e => tups b xs (I.base.tups b xs e), fun b o xs e => frzs b o xs (I.base.frzs b o xs e), fun b ps e => ?_⟩, ?_, fun x c e => ?_, ?_, fun x c e => ?_, fun p hp => ?_, hok, I.len⟩
  · exact keep b o (neL b o e) hb (neC b o e hx) (I.base.keep b o e n hb hx) (I.base.free b o e n hx)
  · obtain ⟨sl, e1⟩ := I.base.slot b o e n hb hx
    obtain ⟨sl', e2⟩ := slot b _ (neL b o e) hb (neC b o e hx) e1 (I.base.free b o e n hx)
    exact ⟨sl', e2⟩
  · obtain ⟨o', e1⟩ := I.base.there b o e hx
    exact free b o' (neC b o e hx) e1 (I.base.free b o e n hx)
  · obtain ⟨o', e1⟩ := I.base.there b o e hx
    exact there b o' (neC b o e hx) e1
  · exact tbls b ps (I.base.tbls b ps e)
  · obtain ⟨m, hn, hl⟩ := I.loc
    refine ⟨m, ns m hn, fun i x v e1 e2 e3 => ?_⟩
    obtain ⟨u, r, l⟩ := hl i x v e1 e2 e3
    refine ⟨u, r, ?_⟩
    rcases l with l | ⟨k, c, e, z⟩
    · exact .inl l
    · exact .inr ⟨k, c, e, cellK x c e _ z⟩
  · obtain ⟨v, z⟩ := I.cell x c e
    exact ⟨v, cellK x c e v z⟩
  · obtain ⟨m, ⟨o, _, _, ho, _⟩, _⟩ := I.loc
    exact free _ o (fun z => (hch _ z).2.1 rfl) ho I.free
  · obtain ⟨v, o, ho, hd⟩ := I.cell x c e
    exact free c o (fun z => (hch c z).2.2.1 x c e rfl) ho (I.freeC x c e)
  · obtain ⟨e, n, ne, nf, d⟩ := I.pin p hp
    have nch : p.1 ∉ ch := fun z => (hch p.1 z).2.2.2 p hp rfl
    exact ⟨keep p.1 p.2 ne nf nch e n, free p.1 p.2 nch e n, ne, nf, d⟩
/-- .. where the frame's own object is kept too -/
theorem Inv.un {t' : Nat} (I : Inv X pins σ H s) (u : Un X.fs [] H H' s.heap h') (hok : HOk X.prog X.w H' h') : Inv X pins σ H' { s with heap := h', toks := t' } := by
  obtain ⟨m, ⟨o, es, ep, ho, r⟩, _⟩ := id I.loc
  obtain ⟨sl, hL⟩ := u.any ho I.free (by simp)
  exact I.step (g' := s.gens) (d' := s.drawn) (ch := []) (fun _ z => nomatch z) (fun b o _ hb _ e n => u.keep b o e n hb (by simp)) (fun b o _ hb _ e n => u.slot b o e n hb (by simp)) (fun b o _ e n => u.free b o e n (by simp)) (fun b o _ e => u.there b o e (by simp)) u.tups u.frzs u.tbls (fun m' hm => by
    obtain ⟨o', es', ep', ho', r'⟩ := hm
    rw [ho] at ho'; cases ho'
    exact ⟨_, es', ep', hL, r'⟩) hok I.bare
/-- behind a call (or a comprehension's block): the slots of this frame may have changed too, the records at ch may have turned -/
theorem Inv.call {g' : Array GenState} {t' : Nat} {d' : Drawn} {ch : List Addr} (I : Inv X pins σ H s) (u : Un (frs X.stack) ch H H' s.heap h') (hok : HOk X.prog X.w H' h') (hg : AllBare g')
    (hch : ∀ b ∈ ch, (b ∈ X.ex ∨ X.s₀.heap.objs.size ≤ b) ∧ b ≠ X.env.locals ∧ (∀ x c, X.env.cells.lookup x = some c → c ≠ b) ∧ ∀ p ∈ X.pn ++ pins, p.1 ≠ b) :
    Inv X pins σ H' { s with heap := h', gens := g', drawn := d', toks := t' } := by
  obtain ⟨m, ⟨o, es, ep, ho, r⟩, _⟩ := id I.loc
  obtain ⟨sl, hL⟩ := u.any ho I.free fun z => (hch _ z).2.1 rfl
  exact I.step (ch := ch) hch (fun b o hL hb hc e n => u.keep b o e n (fun z => (List.mem_cons.mp (I.stkSub b z)).elim hL hb) hc) (fun b o _ _ hc e n => u.any e n hc) (fun b o hc e n => u.free b o e n hc) (fun b o hc e => u.there b o e hc) u.tups u.frzs u.tbls (fun m' hm => by
    obtain ⟨o', es', ep', ho', r'⟩ := hm
    rw [ho] at ho'; cases ho'
    exact ⟨_, es', ep', hL, r'⟩) hok hg
/-- an untracked record of ours (an iterator) has turned -/
theorem Inv.turned {t' : Nat} {it : Addr} (I : Inv X pins σ H s) (k : ∀ b o, b ≠ it → s.heap.get? b = some o → h'.get? b = some o) (hn : H it = none) (hL : it ≠ X.env.locals)
    (h1 : it ∈ X.ex ∨ X.s₀.heap.objs.size ≤ it) (h2 : ∀ x c, X.env.cells.lookup x = some c → c ≠ it) (h3 : ∀ p ∈ X.pn ++ pins, p.1 ≠ it) : Inv X pins σ H { s with heap := h', toks := t' } := by
  have nit : ∀ b u, H b = some u → b ≠ it := fun b u e z => by rw [z, hn] at e; cases e
  refine I.step (g' := s.gens) (d' := s.drawn) (ch := [it]) (fun b hb => ?_) (fun b o _ _ hc e _ => k b o (fun z => hc (by simp [z])) e) (fun b o _ _ hc e _ => ⟨o.slots, k b o (fun z => hc (by simp [z])) e⟩) (fun _ _ _ _ n => n)
    (fun b o hc e => ⟨o, k b o (fun z => hc (by simp [z])) e⟩) (fun _ _ e => e) (fun _ _ _ e => e) (fun b q e => e) (fun m hm => ?_) (fun b u e => ?_) I.bare
  · have e : b = it := by simpa using hb
    subst e
    exact ⟨h1, hL, h2, h3⟩
  · obtain ⟨o, es, ep, ho, r⟩ := hm
    exact ⟨o, es, ep, k _ o (Ne.symm hL) ho, r⟩
  · refine (I.hok b u e).stay (fun c v hc q => k c v ?_ q) (fun _ q => q) fun _ _ q => q
    rcases hc with z | z
    · rw [z]; exact nit b u e
    · exact nit c _ z
theorem Inv.tok (I : Inv X pins σ H s) (t : Nat) : Inv X pins σ H { s with toks := t } := I.un (h' := s.heap) (t' := t) Un.refl I.hok
/-- all objects kept -/
theorem Inv.kept {t' : Nat} (I : Inv X pins σ H s) (k : ∀ b u, s.heap.get? b = some u → h'.get? b = some u) : Inv X pins σ H { s with heap := h', toks := t' } := I.un (Un.kept k) (I.hok.kept k)
/-- a new object laid and tracked -/
theorem Inv.laid {a : Addr} {o : HO} {t' : Nat} (I : Inv X pins σ H s) (k : ∀ b u, s.heap.get? b = some u → h'.get? b = some u) (hp : s.heap.objs.size ≤ a) (new : ObjOk X.prog X.w (upd H a o) h' a o) :
    Inv X pins σ (upd H a o) { s with heap := h', toks := t' } := I.un (Un.laid k hp (I.hok.fresh hp)) (I.hok.laid k hp new)
/-- an object written -/
theorem Inv.write {x e : Addr} {o : HO} {t' : Nat} (I : Inv X pins σ H s) (mu : Mut (H x)) (he : e = x ∨ H e = some (.own x)) (k : ∀ b u, b ≠ e → s.heap.get? b = some u → h'.get? b = some u) (heo : ∃ u, h'.get? e = some u)
    (new : ObjOk X.prog X.w (upd H x o) h' x o) : Inv X pins σ (upd H x o) { s with heap := h', toks := t' } := I.un (Un.write mu he k heo) (I.hok.write mu he k heo new)
/-- forgetting slots, pins -/
theorem Inv.weak {σ' : List (Option V)} (I : Inv X pins σ H s) (hl : σ'.length = σ.length) (w : ∀ (i : Nat) v, σ'[i]? = some (some v) → σ[i]? = some (some v)) : Inv X pins σ' H s :=
  ⟨I.ok, I.os, I.bare, I.base, let ⟨m, hn, hl'⟩ := I.loc; ⟨m, hn, fun i x v e1 e2 e3 => hl' i x v e1 (w i v e2) e3⟩, I.cell, I.free, I.freeC, I.pin, I.hok, hl.trans I.len⟩
theorem Inv.pins_of {pins' : List (Addr × Obj)} (I : Inv X pins σ H s) (h : ∀ p ∈ pins', s.heap.get? p.1 = some p.2 ∧ H p.1 = none ∧ p.1 ≠ X.env.locals ∧ p.1 ∉ X.fs ∧ ∀ v, p.2.data ≠ .cell v) : Inv X pins' σ H s :=
  ⟨I.ok, I.os, I.bare, I.base, I.loc, I.cell, I.free, I.freeC, fun p hp => (List.mem_append.mp hp).elim (fun z => I.pin p (List.mem_append_left _ z)) (h p), I.hok, I.len⟩

theorem nodup_ix {N : List Str} (hN : N.Nodup) {i j : Nat} {x : Str} (a : N[i]? = some x) (b : N[j]? = some x) : i = j := by
  obtain ⟨h1, e1⟩ := List.getElem?_eq_some_iff.mp a
  obtain ⟨h2, e2⟩ := List.getElem?_eq_some_iff.mp b
  exact (List.getElem_inj hN).mp (e1.trans e2.symm)

/-- a name is stored; what changed -/
theorem store_ok2 {M : Model} {A : Around} {E : Value → Shared → Prop} {i : Nat} {x : Str} {v : V} {u : Value} {Q : Unit → Shared → Prop} (I : Inv X pins σ H s) (hN : X.N.Nodup) (hi : X.N[i]? = some x) (hx : Loc X.env.scope x) (r : RelV v u)
    (h : ∀ s', Inv X pins (σ.set i (some v)) H s' → (∃ a, Heap.SameBut a s.heap s'.heap ∧ (a = X.env.locals ∨ X.env.cells.lookup x = some a)) → Q () s') (hf : X.fn x = true ∨ X.env.scope.names.lookup x = some .local := by first | exact .inl rfl | exact .inr rfl | assumption) : wpAny M A (storeName X.env x u) Q E s := by
  obtain ⟨m, hn, hl⟩ := id I.loc
  have hcls : (X.env.scope.kind == .class || (X.env.scope.kind == .module && X.env.locals != X.env.globals)) = false := by rw [I.ok.kind]; rfl
  have hiσ : i < σ.length := by rw [I.len]; exact (List.getElem?_eq_some_iff.mp hi).1
  have cne := I.cne
  have tracked : ∀ {a : Addr} {h' : Heap}, (∃ o, s.heap.get? a = some o ∧ H a = none) → Heap.SameBut a s.heap h' → HOk X.prog X.w H h' := fun {a h'} ha hs b ob e => by
    obtain ⟨_, _, hfree⟩ := ha
    refine (I.hok b ob e).stay (fun c w' hc q => (hs.2 c ?_).trans q) (fun _ q => q) fun _ _ q => q
    rintro rfl
    rcases hc with rfl | hc
    · rw [hfree] at e; cases e
    · rw [hfree] at hc; cases hc
  rcases hx with hk | hk
  · refine wpAny_storeName_local hk hn (fun h' hn' hs => ?_) hcls
    obtain ⟨oL, _, _, hoL, _⟩ := id hn
    refine h _ ⟨I.ok, I.os, I.bare, ⟨fun b o e n hb hx => ?_, fun b o e n hb hx => ?_, I.base.free, fun b o e hx => ?_, I.base.tups, I.base.frzs, I.base.tbls⟩, ⟨_, hn', fun j y v' e1 e2 e3 => ?_⟩, fun y c e => ?_, I.free, I.freeC, fun p hp => ?_, tracked ⟨oL, hoL, I.free⟩ hs, by simpa using I.len⟩ ⟨_, hs, .inl rfl⟩
    · exact (hs.2 b (Nat.ne_of_lt (Nat.lt_of_lt_of_le (Heap.lt_size e) I.ok.above))).trans (I.base.keep b o e n hb hx)
    · obtain ⟨sl, e1⟩ := I.base.slot b o e n hb hx
      exact ⟨sl, (hs.2 b (Nat.ne_of_lt (Nat.lt_of_lt_of_le (Heap.lt_size e) I.ok.above))).trans e1⟩
    · obtain ⟨o', e1⟩ := I.base.there b o e hx
      exact ⟨o', (hs.2 b (Nat.ne_of_lt (Nat.lt_of_lt_of_le (Heap.lt_size e) I.ok.above))).trans e1⟩
    · by_cases hj : j = i
      · subst hj
        rw [hi] at e1; cases e1
        rw [List.getElem?_set_self hiσ] at e2
        cases e2
        exact ⟨u, r, .inl ⟨hk, by simp⟩⟩
      · rw [List.getElem?_set_ne (Ne.symm hj)] at e2
        obtain ⟨u', r', q⟩ := hl j y v' e1 e2 e3
        refine ⟨u', r', ?_⟩
        rcases q with ⟨k, e⟩ | ⟨k, c, e, z⟩
        · refine .inl ⟨k, ?_⟩
          have : y ≠ x := fun e => hj (nodup_ix hN e1 (e ▸ hi))
          simp [this, e]
        · exact .inr ⟨k, c, e, z.sameBut hs (cne y c e)⟩
    · obtain ⟨w', z⟩ := I.cell y c e
      exact ⟨w', z.sameBut hs (cne y c e)⟩
    · obtain ⟨e, n, ne, nf, d⟩ := I.pin p hp
      exact ⟨(hs.2 p.1 ne).trans e, n, ne, nf, d⟩
  · have hfn : X.fn x = true := by
      rcases hf with z | z
      · exact z
      · rw [z] at hk; cases hk
    obtain ⟨c, hc⟩ := I.ok.has x (.inl hk)
    obtain ⟨w', z⟩ := I.cell x c hc
    refine wpAny_storeName_cell I.ok.kind hk hc z (fun h' hc' hs => ?_)
    obtain ⟨oc, hoc, hocd⟩ := id z
    refine h { s with heap := h' } ⟨I.ok, I.os, I.bare, ⟨fun b o e n hb hx => ?_, fun b o e n hb hx => ?_, I.base.free, fun b o e hx => ?_, I.base.tups, I.base.frzs, I.base.tbls⟩, ⟨m, hn.sameBut hs (Ne.symm (cne x c hc)), fun j y v' e1 e2 e3 => ?_⟩, fun y c' e => ?_, I.free, I.freeC, fun p hp => ?_, tracked ⟨oc, hoc, I.freeC x c hc⟩ hs, by simpa using I.len⟩ ⟨c, hs, .inr hc⟩
    · exact (hs.2 b (Nat.ne_of_lt (Nat.lt_of_lt_of_le (Heap.lt_size e) (I.ok.cab x c hfn hc)))).trans (I.base.keep b o e n hb hx)
    · obtain ⟨sl, e1⟩ := I.base.slot b o e n hb hx
      exact ⟨sl, (hs.2 b (Nat.ne_of_lt (Nat.lt_of_lt_of_le (Heap.lt_size e) (I.ok.cab x c hfn hc)))).trans e1⟩
    · obtain ⟨o', e1⟩ := I.base.there b o e hx
      exact ⟨o', (hs.2 b (Nat.ne_of_lt (Nat.lt_of_lt_of_le (Heap.lt_size e) (I.ok.cab x c hfn hc)))).trans e1⟩
    · by_cases hj : j = i
      · subst hj
        rw [hi] at e1; cases e1
        rw [List.getElem?_set_self hiσ] at e2
        cases e2
        exact ⟨u, r, .inr ⟨.inl hk, c, hc, hc'⟩⟩
      · rw [List.getElem?_set_ne (Ne.symm hj)] at e2
        obtain ⟨u', r', q⟩ := hl j y v' e1 e2 e3
        refine ⟨u', r', ?_⟩
        rcases q with q | ⟨k, c', e, z'⟩
        · exact .inl q
        · refine .inr ⟨k, c', e, z'.sameBut hs ?_⟩
          rintro rfl
          exact hj (nodup_ix hN e1 (I.ok.inj _ _ _ e hc ▸ hi))
    · by_cases hcc : c' = c
      · subst hcc; exact ⟨_, hc'⟩
      · obtain ⟨w2, z2⟩ := I.cell y c' e
        exact ⟨w2, z2.sameBut hs hcc⟩
    · obtain ⟨e, n, ne, nf, d⟩ := I.pin p hp
      refine ⟨(hs.2 p.1 ?_).trans e, n, ne, nf, d⟩
      intro q
      rw [q, hoc] at e
      have q' : oc = p.2 := Option.some.inj e
      exact d w' (by rw [← q']; exact hocd)
theorem store_ok {M : Model} {A : Around} {E : Value → Shared → Prop} {i : Nat} {x : Str} {v : V} {u : Value} {Q : Unit → Shared → Prop} (I : Inv X pins σ H s) (hN : X.N.Nodup) (hi : X.N[i]? = some x) (hx : Loc X.env.scope x) (r : RelV v u)
    (h : ∀ s', Inv X pins (σ.set i (some v)) H s' → Q () s') (hf : X.fn x = true ∨ X.env.scope.names.lookup x = some .local := by first | exact .inl rfl | exact .inr rfl | assumption) : wpAny M A (storeName X.env x u) Q E s :=
  store_ok2 I hN hi hx r (fun s' I' _ => h s' I') hf
/-- behind a call or a block, the state as it is -/
theorem Inv.call' {s' : Shared} {ch : List Addr} (I : Inv X pins σ H s) (ho : s'.os = s.os) (u : Un (frs X.stack) ch H H' s.heap s'.heap) (hok : HOk X.prog X.w H' s'.heap) (hg : AllBare s'.gens)
    (hch : ∀ b ∈ ch, (b ∈ X.ex ∨ X.s₀.heap.objs.size ≤ b) ∧ b ≠ X.env.locals ∧ (∀ x c, X.env.cells.lookup x = some c → c ≠ b) ∧ ∀ p ∈ X.pn ++ pins, p.1 ≠ b) : Inv X pins σ H' s' := by
  obtain ⟨h', g', d', t', o'⟩ := s'
  have e : o' = s.os := ho
  subst e
  exact I.call (g' := g') (t' := t') (d' := d') u hok hg hch
end

/-! ### the judgements -/
/-- an exception: its class, its own dict's address (where it has one), the abstract heap behind it -/
abbrev XK := Value → Option Addr → Hp → Prop
abbrev St := List (Option V)
abbrev VK := V → Hp → Prop
/-- an expression's reading; a test's; an argument list's -/
abbrev TE := St → Hp → VK → Prop
abbrev TT := St → Hp → (Bool → Hp → Prop) → Prop
abbrev TA := St → Hp → (List V → Hp → Prop) → Prop
/-- what is wanted behind a statement -/
structure Ends where
  nx : St → Hp → Prop
  rt : VK
  bk : St → Hp → Prop := fun _ _ => False
  ct : St → Hp → Prop := fun _ _ => False
abbrev TS := Ends → St → Hp → Prop

def EP (X : Cx) (pins : List (Addr × Obj)) (σ : St) (Q : VK) (u : Value) (s' : Shared) : Prop := ∃ v H', Inv X pins σ H' s' ∧ RelV v u ∧ Q v H'
def TP (X : Cx) (pins : List (Addr × Obj)) (σ : St) (Q : Bool → Hp → Prop) (b : Bool) (s' : Shared) : Prop := ∃ H', Inv X pins σ H' s' ∧ Q b H'
def AP (X : Cx) (pins : List (Addr × Obj)) (σ : St) (Q : List V → Hp → Prop) (us : List Value) (s' : Shared) : Prop := ∃ vs H', Inv X pins σ H' s' ∧ Vals vs us ∧ Q vs H'
def SP (X : Cx) (pins : List (Addr × Obj)) (D : Ends) (f : Flow) (s' : Shared) : Prop :=
  match f with
  | .next => ∃ σ' H', Inv X pins σ' H' s' ∧ D.nx σ' H'
  | .brk => ∃ σ' H', Inv X pins σ' H' s' ∧ D.bk σ' H'
  | .cont => ∃ σ' H', Inv X pins σ' H' s' ∧ D.ct σ' H'
  | .ret u => ∃ v σ' H', Inv X pins σ' H' s' ∧ RelV v u ∧ D.rt v H'

def PE (X : Cx) (e : Expr) (t : TE) : Prop :=
  ∀ (pins : List (Addr × Obj)) (s : Shared) (σ : St) (H : Hp) (Q : VK), Inv X pins σ H s → t σ H Q → wpAny (model X.prog X.w) X.A (eval e X.env) (EP X pins σ Q) X.xe s
def PT (X : Cx) (e : Expr) (t : TT) : Prop :=
  ∀ (pins : List (Addr × Obj)) (s : Shared) (σ : St) (H : Hp) (Q : Bool → Hp → Prop), Inv X pins σ H s → t σ H Q → wpAny (model X.prog X.w) X.A (isTrue e X.env (eval e X.env)) (TP X pins σ Q) X.xe s
/-- a test whatever its 'whole' is (and, or) -/
def PW (X : Cx) (e : Expr) (t : TT) : Prop :=
  ∀ (whole : Sem Value) (pins : List (Addr × Obj)) (s : Shared) (σ : St) (H : Hp) (Q : Bool → Hp → Prop), Inv X pins σ H s → t σ H Q → wpAny (model X.prog X.w) X.A (isTrue e X.env whole) (TP X pins σ Q) X.xe s
theorem PW.pt {X : Cx} {e : Expr} {t : TT} (h : PW X e t) : PT X e t := h _
/-- an argument list (no star), from the left -/
def PA (X : Cx) (es : List Expr) (t : TA) : Prop :=
  ∀ (pos : Pos) (pins : List (Addr × Obj)) (s : Shared) (σ : St) (H : Hp) (Q : List V → Hp → Prop), Inv X pins σ H s → t σ H Q → wpAny (model X.prog X.w) X.A (spliced (backTo pos (starEach es X.env))) (AP X pins σ Q) X.xe s
def PS (X : Cx) (st : Stmt) (t : TS) : Prop :=
  ∀ (pins : List (Addr × Obj)) (s : Shared) (σ : St) (H : Hp) (D : Ends), Inv X pins σ H s → t D σ H → wpAny (model X.prog X.w) X.A (exec st X.env) (SP X pins D) X.xe s
def PSs (X : Cx) (st : List Stmt) (t : TS) : Prop :=
  ∀ (pins : List (Addr × Obj)) (s : Shared) (σ : St) (H : Hp) (D : Ends), Inv X pins σ H s → t D σ H → wpAny (model X.prog X.w) X.A (execs st X.env) (SP X pins D) X.xe s
/-- weaken the end -/
theorem thn {α : Type} {t : Sem α} {Q Q' : α → Shared → Prop} {M : Model} {A : Around} {E : Value → Shared → Prop} {s : Shared} (h : wpAny M A t Q E s) (hQ : ∀ a s, Q a s → Q' a s) : wpAny M A t Q' E s := wpAny_mono h hQ fun _ _ x => x
end L2

namespace L2
open PySem PySem.Spec PyProof.Rows
section
variable {X : Cx}

/-! ### names and constants -/
def tVar (i : Nat) : TE := fun σ H Q => ∃ v, σ[i]? = some (some v) ∧ Q v H
def tC (v : V) : TE := fun _ H Q => Q v H
theorem pe_var {i : Nat} {x : Str} {pos : Pos} (hN : X.N[i]? = some x) (hv : Vis X.env.scope x) (hd : (x == ("__debug__" : Str)) = false := by decide) (hcd : (x == ("__classdict__" : Str)) = false := by decide) : PE X (.Name x pos) (tVar i) := by
  intro pins s σ H Q I h
  obtain ⟨v, e, h⟩ := h
  obtain ⟨m, hn, hl⟩ := I.loc
  obtain ⟨u, r, l⟩ := hl i x v hN e hv
  have fin : EP X pins σ Q u s := ⟨v, H, I, r, h⟩
  rcases l with ⟨hk, hm⟩ | ⟨hk, c, hc, hcell⟩
  · exact wpAny_Name (wpAny_loadName_local I.ok.kind hk hn hm fin) hd
  · rcases hk with hk | hk
    · exact wpAny_Name (wpAny_loadName_cell I.ok.kind hk hc hcell fin) hd
    · exact wpAny_Name (wpAny_loadName_free I.ok.kind hk hc hcell fin hcd) hd
theorem pe_int {i j pos} : PE X (.Constant (.int i) j pos) (tC (.int i)) := fun _ _ _ H _ I h => wpAny_Constant_int ⟨.int i, H, I.tok _, ⟨_, rfl⟩, h⟩
theorem pe_bl {b j pos} : PE X (.Constant (.bool b) j pos) (tC (.bl b)) := fun _ _ _ H _ I h => Constant_bool ⟨.bl b, H, I, rfl, h⟩
theorem pe_non {j pos} : PE X (.Constant .none j pos) (tC .non) := fun _ _ _ H _ I h => Constant_none ⟨.non, H, I, rfl, h⟩
theorem pe_str {x j pos} : PE X (.Constant (.str x) j pos) (tC (.str x)) := fun _ _ _ H _ I h => Calls.Constant_str ⟨.str x, H, I.tok _, ⟨_, rfl⟩, h⟩

/-- a global name of the def -/
def Gl (X : Cx) (x : Str) : Prop := X.env.kindOf x = some .globalImplicit
theorem ld_glob {E : Value → Shared → Prop} {pins : List (Addr × Obj)} {s : Shared} {σ : St} {H : Hp} {x : Str} {u : Value} {pos : Pos} {Q : Value → Shared → Prop} (I : Inv X pins σ H s) (hg : Gl X x) (hm : X.mg x = some u) (h : Q u s)
    (hd : (x == ("__debug__" : Str)) = false := by decide) : wpAny (model X.prog X.w) X.A (eval (.Name x pos) X.env) Q E s :=
  Calls.Name_function_global I.ok.kind hg (Calls.loadGlobal_global (by rw [I.ok.glob]; exact I.mod.glob.keeps I.bk) hm h) hd
theorem ld_blt {E : Value → Shared → Prop} {pins : List (Addr × Obj)} {s : Shared} {σ : St} {H : Hp} {x : Str} {u : Value} {pos : Pos} {Q : Value → Shared → Prop} (I : Inv X pins σ H s) (hg : Gl X x) (hm : X.mg x = none) (hv : bootBuiltins x = some u) (h : Q u s)
    (hn : x ≠ "__name__" := by decide) (hd : (x == ("__debug__" : Str)) = false := by decide) : wpAny (model X.prog X.w) X.A (eval (.Name x pos) X.env) Q E s := by
  obtain ⟨mb, h1, h2⟩ := I.mod.blt
  exact Calls.Name_function_global I.ok.kind hg (Calls.loadGlobal_builtin (by rw [I.ok.glob]; exact I.mod.glob.keeps I.bk) hm (by rw [I.ok.blt]; exact h1.keeps I.bk) ((h2 x hn).trans hv) h) hd
/-- a module's constant, a class, a function, as a value -/
theorem pe_glob {x : Str} {v : V} {u : Value} {pos : Pos} (hg : Gl X x) (hm : X.mg x = some u) (r : RelV v u) (hd : (x == ("__debug__" : Str)) = false := by decide) : PE X (.Name x pos) (tC v) :=
  fun _ _ _ H _ I h => ld_glob I hg hm ⟨v, H, I, r, h⟩ hd
/-! ### arithmetic -/
variable {a b : Expr} {ta tb : TE} {pos : Pos}
/-! ### comparisons -/
/-- a comparison as a value, as a test -/
def tB (t : TE) : TT := fun σ H Q => t σ H fun x H1 => ∃ c, x = .bl c ∧ Q c H1
/-- an expression whose value is a bool, as a test -/
theorem pt_val {e : Expr} {t : TE} (h : PE X e t) (he : ∀ whole, isTrue e X.env whole = (do let v ← whole; standAt e.pos; holding [v] (truthy v)) := by intro _; rfl) : PT X e (tB t) := by
  intro pins s σ H Q I hw
  refine isTrue_plain (thn (h pins s σ H _ I hw) fun v s1 ⟨x, H1, I1, r1, q1⟩ => ?_) (he _)
  obtain ⟨d, rfl, q⟩ := q1
  cases r1
  exact wpAny_truthy_bool ⟨H1, I1, q⟩

/-! ### and, or, not -/
variable {tA tB' : TT} {rest : List Expr}
def tOr (t u : TT) : TT := fun σ H Q => t σ H fun c H1 => if c = true then Q true H1 else u σ H1 Q
def tNot (t : TT) : TT := fun σ H Q => t σ H fun c H1 => Q (!c) H1
theorem pw_or1 (ha : PT X a tA) : PW X (.BoolOp .Or [a] pos) tA := by
  intro wh pins s σ H Q I h
  refine isTrue_or (thn (ha pins s σ H Q I h) fun c s1 e => ?_)
  cases c with
  | false => exact isTrue_or_nil e
  | true => exact e
theorem pw_or (ha : PT X a tA) (hb : PW X (.BoolOp .Or (b :: rest) pos) tB') : PW X (.BoolOp .Or (a :: b :: rest) pos) (tOr tA tB') := by
  intro wh pins s σ H Q I h
  refine isTrue_or (thn (ha pins s σ H _ I h) fun c s1 ⟨H1, I1, q1⟩ => ?_)
  cases c with
  | true => exact ⟨H1, I1, q1⟩
  | false => exact hb wh pins s1 σ H1 Q I1 q1
theorem pt_not (ha : PT X a tA) : PT X (.UnaryOp .Not a pos) (tNot tA) := by
  intro pins s σ H Q I h
  exact isTrue_not (ha pins s σ H (fun c H1 => Q (!c) H1) I h)
/-- .. as values (bools) -/
def tAndV (ta tb : TE) : TE := fun σ H Q => ta σ H fun x H1 => ∃ c, x = .bl c ∧ if c = true then tb σ H1 Q else Q (.bl false) H1
theorem pe_one {op} {t : TE} (h : PE X a t) : PE X (.BoolOp op [a] pos) t := fun pins s σ H Q I hw => BoolOp_one (h pins s σ H Q I hw)
theorem pe_and (ha : PE X a ta) (hb : PE X (.BoolOp .And (b :: rest) pos) tb) : PE X (.BoolOp .And (a :: b :: rest) pos) (tAndV ta tb) := by
  intro pins s σ H Q I h
  refine BoolOp_and (thn (ha pins s σ H _ I h) fun v s1 ⟨x, H1, I1, r1, q1⟩ => ?_)
  obtain ⟨c, rfl, q1⟩ := q1
  cases r1
  refine wpAny_truthy_bool ?_
  cases c with
  | true => exact hb pins s1 σ H1 Q I1 q1
  | false => exact ⟨.bl false, H1, I1, rfl, q1⟩
/-- a if t else b -/
def tIf (t : TT) (ta tb : TE) : TE := fun σ H Q => t σ H fun c H1 => if c = true then ta σ H1 Q else tb σ H1 Q
theorem pe_ifExp {c : Expr} (hc : PT X c tA) (ha : PE X a ta) (hb : PE X b tb) : PE X (.IfExp c a b pos) (tIf tA ta tb) := by
  intro pins s σ H Q I h
  refine wpAny_IfExp (thn (hc pins s σ H _ I h) fun d s1 ⟨H1, I1, q1⟩ => ?_)
  cases d with
  | true => exact ha pins s1 σ H1 Q I1 q1
  | false => exact hb pins s1 σ H1 Q I1 q1
end
end L2

namespace L2
open PySem PySem.Spec PyProof.Rows

/-! ### a list, a tuple that is read: tracked, frozen, or an object of the module -/
def SqL (K : PySem.W.Frag) (H : Hp) (a : Addr) (xs : List V) : Prop :=
  Rd H a (.lst xs) ∨
    ∃ (o : Obj) (its : Array Value) (n : Nat), K.lookup a = some o ∧ o.cls = .type "list" ∧ o.dict = none ∧ o.data = .seq its n ∧ its.size ≤ sizeLine ∧ Vals xs its.toList
def SqT (K : PySem.W.Frag) (H : Hp) (a : Addr) (xs : List V) : Prop :=
  Rd H a (.tup xs) ∨
    ∃ (o : Obj) (its : Array Value) (n : Nat), K.lookup a = some o ∧ o.cls = .type "tuple" ∧ o.data = .seq its n ∧ its.size ≤ sizeLine ∧ Vals xs its.toList
def absV : Value → Option V
  | .none => some .non
  | .bool b => some (.bl b)
  | .int i _ => some (.int i)
  | .str x _ => some (.str x)
  | .bytes b _ => some (.byt b)
  | .float b _ => some (.flt b)
  | .ref a => some (.ref a)
  | .type n => some (.ty n)
  | _ => none
theorem RelV.abs {x : V} {u : Value} (r : RelV x u) : absV u = some x := by
  cases x with
  | non => cases r; rfl
  | bl _ => cases r; rfl
  | int _ => obtain ⟨t, rfl⟩ := r; rfl
  | str _ => obtain ⟨t, rfl⟩ := r; rfl
  | byt _ => obtain ⟨t, rfl⟩ := r; rfl
  | flt _ => obtain ⟨t, rfl⟩ := r; rfl
  | ref _ => cases r; rfl
  | ty _ => cases r; rfl
theorem RelV.inj {x y : V} {u : Value} (r : RelV x u) (q : RelV y u) : x = y := Option.some.inj (r.abs.symm.trans q.abs)
theorem Vals.inj : ∀ {xs ys : List V} {us : List Value}, Vals xs us → Vals ys us → xs = ys
  | _, _, _, .nil, .nil => rfl
  | _, _, _, .cons r t, .cons r' t' => by rw [r.inj r', Vals.inj t t']
section
variable {X : Cx} {pins : List (Addr × Obj)} {σ : St} {H : Hp} {s : Shared} {a : Addr} {xs ys : List V}
theorem SqL.of {K : PySem.W.Frag} (h : H a = some (.lst xs)) : SqL K H a xs := .inl (.inl h)
theorem SqT.of {K : PySem.W.Frag} (h : H a = some (.tup xs)) : SqT K H a xs := .inl (.inl h)
theorem Inv.list (I : Inv X pins σ H s) (h : SqL X.K H a xs) : ∃ its : List Value, Vals xs its ∧ PlainL s.heap a its.toArray ∧ xs.length ≤ sizeLine := by
  rcases h with h | ⟨o, its, n, hk, hc, hd, hs, hz, r⟩
  · obtain ⟨z, its, n, r, e⟩ := h.ok I.hok
    exact ⟨its, r, ⟨_, n, e, rfl, rfl, rfl⟩, z⟩
  · refine ⟨its.toList, r, ⟨o, n, I.kIn a o hk, hc, hd, by simpa using hs⟩, ?_⟩
    have e := r.length
    simp only [Array.length_toList] at e
    omega
theorem Inv.tuple (I : Inv X pins σ H s) (h : SqT X.K H a xs) : ∃ its : List Value, Vals xs its ∧ IsTup s.heap a its.toArray ∧ xs.length ≤ sizeLine := by
  rcases h with h | ⟨o, its, n, hk, hc, hs, hz, r⟩
  · obtain ⟨z, its, r, p⟩ := h.ok I.hok
    exact ⟨its, r, p, z⟩
  · refine ⟨its.toList, r, ⟨o, I.kIn a o hk, hc, n, by simpa using hs⟩, ?_⟩
    have e := r.length
    simp only [Array.length_toList] at e
    omega
theorem Inv.list_inj (I : Inv X pins σ H s) (h : SqL X.K H a xs) (h' : SqL X.K H a ys) : xs = ys := by
  obtain ⟨its, r, ⟨o, n, e, _, _, d⟩, _⟩ := I.list h
  obtain ⟨its', r', ⟨o', n', e', _, _, d'⟩, _⟩ := I.list h'
  rw [e] at e'; cases e'
  rw [d] at d'
  injection d' with d1 _
  have : its = its' := by simpa using congrArg Array.toList d1
  subst this
  exact r.inj r'
theorem Inv.tuple_inj (I : Inv X pins σ H s) (h : SqT X.K H a xs) (h' : SqT X.K H a ys) : xs = ys := by
  obtain ⟨its, r, ⟨o, e, _, n, d⟩, _⟩ := I.tuple h
  obtain ⟨its', r', ⟨o', e', _, n', d'⟩, _⟩ := I.tuple h'
  rw [e] at e'; cases e'
  rw [d] at d'
  injection d' with d1 _
  have : its = its' := by simpa using congrArg Array.toList d1
  subst this
  exact r.inj r'
end

/-! ### another wish about exceptions -/
abbrev Cx.wish (X : Cx) (E : Value → Shared → Prop) : Cx := { X with xe := E }
/-- no exception leaves -/
abbrev Cx.nox (X : Cx) : Cx := X.wish fun _ _ => False
theorem Cx.Ok.wish {X : Cx} (ok : X.Ok) (E : Value → Shared → Prop) : (X.wish E).Ok :=
  ⟨ok.mod, ok.kind, ok.glob, ok.blt, ok.above, ok.inj, ok.has, ok.cab, ok.hd, ok.frames, ok.stk, ok.exf, ok.bs, ok.bsz, ok.noex, ok.exfs, ok.funs, ok.frf⟩
theorem Cx.Ok.unwish {X : Cx} {E : Value → Shared → Prop} (ok : (X.wish E).Ok) : X.Ok :=
  ⟨ok.mod, ok.kind, ok.glob, ok.blt, ok.above, ok.inj, ok.has, ok.cab, ok.hd, ok.frames, ok.stk, ok.exf, ok.bs, ok.bsz, ok.noex, ok.exfs, ok.funs, ok.frf⟩
section
variable {X : Cx} {pins : List (Addr × Obj)} {σ : St} {H : Hp} {s : Shared} {E : Value → Shared → Prop}
theorem Inv.wish (I : Inv X pins σ H s) (E : Value → Shared → Prop) : Inv (X.wish E) pins σ H s := ⟨I.ok.wish E, I.os, I.bare, I.base, I.loc, I.cell, I.free, I.freeC, I.pin, I.hok, I.len⟩
theorem Inv.unwish (I : Inv (X.wish E) pins σ H s) : Inv X pins σ H s := ⟨I.ok.unwish, I.os, I.bare, I.base, I.loc, I.cell, I.free, I.freeC, I.pin, I.hok, I.len⟩
theorem SP.unwish {D : Ends} {f : Flow} {s' : Shared} (h : SP (X.wish E) pins D f s') : SP X pins D f s' := by
  cases f with
  | next => obtain ⟨σ', H', I, q⟩ := h; exact ⟨σ', H', I.unwish, q⟩
  | brk => obtain ⟨σ', H', I, q⟩ := h; exact ⟨σ', H', I.unwish, q⟩
  | cont => obtain ⟨σ', H', I, q⟩ := h; exact ⟨σ', H', I.unwish, q⟩
  | ret u => obtain ⟨v, σ', H', I, r, q⟩ := h; exact ⟨v, σ', H', I.unwish, r, q⟩
theorem PE.nox {e : Expr} {t : TE} (h : PE X.nox e t) : PE X e t := fun pins s σ H Q I hw =>
  wpAny_mono (h pins s σ H Q (I.wish _) hw) (fun _ _ ⟨v, H', I', r, q⟩ => ⟨v, H', I'.unwish, r, q⟩) fun _ _ z => False.elim z
theorem PT.nox {e : Expr} {t : TT} (h : PT X.nox e t) : PT X e t := fun pins s σ H Q I hw =>
  wpAny_mono (h pins s σ H Q (I.wish _) hw) (fun _ _ ⟨H', I', q⟩ => ⟨H', I'.unwish, q⟩) fun _ _ z => False.elim z
theorem PSs.nox {st : List Stmt} {t : TS} (h : PSs X.nox st t) : PSs X st t := fun pins s σ H D I hw =>
  wpAny_mono (h pins s σ H D (I.wish _) hw) (fun _ _ q => q.unwish) fun _ _ z => False.elim z
end

/-! ### blocks and small statements -/
section
variable {X : Cx} {st : Stmt} {rest : List Stmt} {t u : TS} {e : Expr} {te : TE} {pos : Pos}
def tNext : TS := fun D σ H => D.nx σ H
def tSeq (t u : TS) : TS := fun D σ H => t { D with nx := u D } σ H
theorem pss_nil : PSs X [] tNext := fun _ _ σ H _ I h => wpAny_execs_nil ⟨σ, H, I, h⟩
theorem pss_cons (h1 : PS X st t) (h2 : PSs X rest u) : PSs X (st :: rest) (tSeq t u) := by
  intro pins s σ H D I h
  refine wpAny_execs_cons (thn (h1 pins s σ H { D with nx := u D } I h) fun f s1 q => ?_)
  cases f with
  | next =>
    obtain ⟨σ', H', I', q⟩ := q
    exact h2 pins s1 σ' H' D I' q
  | ret v => exact q
  | brk => exact q
  | cont => exact q
theorem pss_one (h1 : PS X st t) : PSs X [st] t := by
  intro pins s σ H D I h
  refine wpAny_execs_cons (thn (h1 pins s σ H D I h) fun f s1 q => ?_)
  cases f with
  | next => exact wpAny_execs_nil q
  | ret v => exact q
  | brk => exact q
  | cont => exact q
/-- in a def's body nothing is shown -/
theorem Inv.quiet {pins : List (Addr × Obj)} {σ : St} {H : Hp} {s : Shared} (I : Inv X pins σ H s) : interactive X.env = false := by simp [interactive, I.ok.kind]
/-- an expression whose value is dropped -/
def tDrop (te : TE) : TS := fun D σ H => te σ H fun _ H1 => D.nx σ H1
theorem ps_expr (he : PE X e te) (hs : swapsWith e none pos.line X.env = pure false := by rfl) : PS X (.Expr e pos) (tDrop te) := by
  intro pins s σ H D I h
  exact wpAny_Expr_any (thn (he pins s σ H _ I h) fun v s1 ⟨x, H1, I1, r1, q1⟩ => ⟨σ, H1, I1, q1⟩) I.quiet hs
def tRet (te : TE) : TS := fun D σ H => te σ H D.rt
theorem ps_ret (he : PE X e te) : PS X (.Return (some e) pos) (tRet te) := by
  intro pins s σ H D I h
  exact wpAny_Return_some (thn (he pins s σ H _ I h) fun v s1 ⟨x, H1, I1, r1, q1⟩ => ⟨x, σ, H1, I1, r1, q1⟩)
def tIfS (c : TT) (t u : TS) : TS := fun D σ H => c σ H fun b H1 => if b = true then t D σ H1 else u D σ H1
theorem ps_if {c : Expr} {a b : List Stmt} {tc : TT} (hc : PT X c tc) (ha : PSs X a t) (hb : PSs X b u) : PS X (.If c a b pos) (tIfS tc t u) := by
  intro pins s σ H D I h
  refine wpAny_If (thn (hc pins s σ H _ I h) fun d s1 ⟨H1, I1, q1⟩ => ?_)
  cases d with
  | true => exact ha pins s1 σ H1 D I1 q1
  | false => exact hb pins s1 σ H1 D I1 q1
end

/-! ### targets -/
abbrev TG := V → St → Hp → (St → Hp → Prop) → Prop
abbrev TGs := List V → St → Hp → (St → Hp → Prop) → Prop
def PG (X : Cx) (target : Expr) (t : TG) : Prop :=
  ∀ (pins : List (Addr × Obj)) (s : Shared) (σ : St) (H : Hp) (v : V) (u : Value) (Q : St → Hp → Prop), Inv X pins σ H s → RelV v u → t v σ H Q →
    wpAny (model X.prog X.w) X.A (assign target X.env u) (fun _ s' => ∃ σ' H', Inv X pins σ' H' s' ∧ Q σ' H') X.xe s
/-- several targets, one after another -/
def PGs (X : Cx) (ts : List Expr) (t : TGs) : Prop :=
  ∀ (pins : List (Addr × Obj)) (s : Shared) (σ : St) (H : Hp) (vs : List V) (us : List Value) (Q : St → Hp → Prop), Inv X pins σ H s → Vals vs us → t vs σ H Q →
    wpAny (model X.prog X.w) X.A (assignInOrder ((assignEach ts X.env).map (·.2)) us) (fun _ s' => ∃ σ' H', Inv X pins σ' H' s' ∧ Q σ' H') X.xe s
section
variable {X : Cx} {pos : Pos}
def gName (i : Nat) : TG := fun v σ H Q => Q (σ.set i (some v)) H
theorem pg_name {i : Nat} {x : Str} (hN : X.N.Nodup) (hi : X.N[i]? = some x) (hx : Loc X.env.scope x) (hf : X.fn x = true ∨ X.env.scope.names.lookup x = some .local := by first | exact .inl rfl | exact .inr rfl | assumption) : PG X (.Name x pos) (gName i) := by
  intro pins s σ H v u Q I r h
  exact wpAny_assign_Name (store_ok I hN hi hx r (fun s' I' => ⟨_, H, I', h⟩) hf)
def gNil : TGs := fun vs σ H Q => vs = [] ∧ Q σ H
def gCons (t : TG) (u : TGs) : TGs := fun vs σ H Q => ∃ v r, vs = v :: r ∧ t v σ H fun σ' H' => u r σ' H' Q
theorem pgs_nil : PGs X [] gNil := by
  intro pins s σ H vs us Q I r h
  obtain ⟨e, h⟩ := h
  subst e
  cases r
  exact assignInOrder_nil ⟨σ, H, I, h⟩
theorem pgs_cons {e : Expr} {es : List Expr} {t : TG} {u : TGs} (h1 : PG X e t) (h2 : PGs X es u)
    (hs : (assignEach (e :: es) X.env).map (·.2) = assign e X.env :: (assignEach es X.env).map (·.2) := by rfl) : PGs X (e :: es) (gCons t u) := by
  intro pins s σ H vs us Q I r h
  obtain ⟨v, vr, e1, h⟩ := h
  subst e1
  cases r with
  | cons r rr =>
    rw [hs]
    refine assignInOrder_cons (thn (h1 pins s σ H _ _ _ I r h) fun _ s1 ⟨σ1, H1, I1, q1⟩ => ?_)
    exact h2 pins s1 σ1 H1 _ _ Q I1 rr q1
/-- (a, b, ..) = a tuple of that length -/
def gTup (K : PySem.W.Frag) (n : Nat) (t : TGs) : TG := fun v σ H Q => ∃ a xs, v = .ref a ∧ SqT K H a xs ∧ xs.length = n ∧ t xs σ H Q
theorem pg_tup {es : List Expr} {k : Nat} {t : TGs} {n : Nat} (hc : X.calm = true) (h : PGs X es t)
    (hn : (assignEach es X.env).length = n := by rfl) (hst : (assignEach es X.env).findIdx? (·.1) = none := by rfl) : PG X (.Tuple es k pos) (gTup X.K n t) := by
  intro pins s σ H v u Q I r hw
  obtain ⟨a, xs, e1, hq, hl, hw⟩ := hw
  subst e1
  cases r
  obtain ⟨its, rv, ht, hz⟩ := I.tuple hq
  refine assign_Tuple_tuple (I.ok.hd hc) ht (by simp [hn, ← hl, rv.length]) hst fun h' hx => ?_
  have I1 : Inv X pins σ H { s with heap := h' } := I.kept (t' := s.toks) fun b o e => hx b o (Nat.ne_of_lt (Heap.lt_size e)) e
  exact h pins _ σ H xs _ Q I1 (by simpa using rv) hw
/-- target = value -/
def tAsg (te : TE) (g : TG) : TS := fun D σ H => te σ H fun x H1 => g x σ H1 D.nx
theorem ps_asg {tg e : Expr} {te : TE} {g : TG} (he : PE X e te) (hg : PG X tg g) (hs : swapsWithSole [tg] e pos.line X.env = pure false := by rfl) (hw : swappedStores [tg] e X.env = pure none := by rfl)
    (h1 : (assignEach [tg] X.env).map (·.2) = [assign tg X.env] := by rfl) : PS X (.Assign [tg] e pos) (tAsg te g) := by
  intro pins s σ H D I h
  refine wpAny_Assign_stores (thn (he pins s σ H _ I h) fun v s1 ⟨x, H1, I1, r1, q1⟩ => ?_) hs hw
  rw [h1]
  exact thn (hg pins s1 σ H1 x v _ I1 r1 q1) fun _ s2 q => q
/-- name = value -/
theorem ps_set {i : Nat} {x : Str} {e : Expr} {te : TE} {pos' : Pos} (hN : X.N.Nodup) (hi : X.N[i]? = some x) (hx : Loc X.env.scope x) (he : PE X e te) (hs : swapsWith e (some (.Name x pos')) pos.line X.env = pure false := by rfl) (hf : X.fn x = true ∨ X.env.scope.names.lookup x = some .local := by first | exact .inl rfl | exact .inr rfl | assumption) :
    PS X (.Assign [.Name x pos'] e pos) (tAsg te (gName i)) := by
  intro pins s σ H D I h
  refine wpAny_Assign_Name (thn (he pins s σ H _ I h) fun v s1 ⟨y, H1, I1, r1, q1⟩ => ?_) hs
  exact store_ok I1 hN hi hx r1 (fun s2 I2 => ⟨_, H1, I2, q1⟩) hf
/-- a, b = x, y with plain local names: stored from the right; the pair itself is not tracked (the opening rows as in PyProof/Rows/TupAssign.lean:23) -/
def tPar (i j : Nat) (ta : TA) : TS := fun D σ H => ta σ H fun vs H1 => ∃ v w, vs = [v, w] ∧ D.nx ((σ.set i (some v)).set j (some w)) H1
theorem ps_par {i j : Nat} {x y : Str} {a b : Expr} {ta : TA} {px py pt : Pos} {kt k2 pt2} (hc : X.calm = true) (hN : X.N.Nodup) (hi : X.N[i]? = some x) (hj : X.N[j]? = some y) (hij : i ≠ j)
    (hx : X.env.scope.names.lookup x = some .local) (hy : X.env.scope.names.lookup y = some .local) (ha : PA X [a, b] ta)
    (hw : swappedStores [.Tuple [.Name x px, .Name y py] kt pt] (.Tuple [a, b] k2 pt2) X.env = pure (some [x, y]))
    (hs : swapsWithSole [.Tuple [.Name x px, .Name y py] kt pt] (.Tuple [a, b] k2 pt2) pos.line X.env = pure false := by rfl) :
    PS X (.Assign [.Tuple [.Name x px, .Name y py] kt pt] (.Tuple [a, b] k2 pt2) pos) (tPar i j ta) := by
  intro pins s σ H D I h
  rw [exec_Assign_arm]
  refine wpAny_bind (wpAny_standAt ?_)
  rw [hs]
  refine wpAny_bind (wpAny_pure ?_)
  rw [if_neg (by decide)]
  refine wpAny_bind (Tuple_ (thn (ha _ pins s σ H _ I h) fun us s1 ⟨vs, H1, I1, r1, q1⟩ => ?_))
  obtain ⟨v, w, e1, q1⟩ := q1
  subst e1
  obtain ⟨u1, u2, rfl, rv, rw'⟩ : ∃ u1 u2, us = [u1, u2] ∧ RelV v u1 ∧ RelV w u2 := by
    cases r1 with
    | cons p q =>
      cases q with
      | cons p' q' =>
        cases q'
        exact ⟨_, _, rfl, p, p'⟩
  refine wpAny_newObj_type ?_ (by show 2 ≤ sizeLine; decide)
  have I2 : Inv X pins σ H1 { s1 with heap := s1.heap.push { cls := .type "tuple", data := .seq [u1, u2].toArray } } := I1.kept (t' := s1.toks) fun b o e => Heap.get?_push_of_some _ e
  rw [hw]
  refine wpAny_bind (wpAny_pure ?_)
  show wpAny (model X.prog X.w) X.A (do rule "assign.swapped-stores"; let items ← unpackItems (.ref s1.heap.objs.size) 2 none; assignInOrder [fun v => bindName X.env y v, fun v => bindName X.env x v] items.reverse; pure Flow.next) _ _ _
  refine wpAny_bind (wpAny_rule (wpAny_bind (unpackItems_tuple (items := #[u1, u2]) (I.ok.hd hc) (IsTup.new s1.heap _) fun h' hx' => ?_)))
  have I3 := I2.kept (h' := h') (t' := s1.toks) fun b o e => hx' b o (Nat.ne_of_lt (Heap.lt_size e)) e
  show wpAny _ _ (assignInOrder [fun v => bindName X.env y v, fun v => bindName X.env x v] [u2, u1] >>= fun _ => pure Flow.next) _ _ _
  refine wpAny_bind (assignInOrder_cons (wpAny_bindName (store_ok I3 hN hj (.inl hy) rw' (fun s2 I4 => ?_) (.inr hy))))
  refine assignInOrder_cons (wpAny_bindName (store_ok I4 hN hi (.inl hx) rv (fun s3 I5 => assignInOrder_nil (wpAny_pure ?_)) (.inr hx)))
  rw [List.set_comm _ _ (Ne.symm hij)] at I5
  exact ⟨_, H1, I5, q1⟩
end

/-! ### while -/
section
variable {X : Cx} {pos : Pos}
end

/-! ### what a loop or a comprehension walks -/
/-- at turn i: it yields x (the heap may grow), or it stops -/
structure It where
  go : Nat → Hp → Prop
  yld : Nat → Hp → V → Hp → Prop
  stop : Nat → Hp → Prop
/-- the iterator's own objects may turn: they are not the frame's, not pinned, younger than the entry (or a comprehension's own) -/
def FpOk (X : Cx) (pins : List (Addr × Obj)) (H : Hp) (b : Addr) : Prop :=
  H b = none ∧ b ≠ X.env.locals ∧ b ∉ X.fs ∧ (b ∈ X.ex ∨ X.s₀.heap.objs.size ≤ b) ∧ (∀ x c, X.env.cells.lookup x = some c → c ≠ b) ∧ ∀ p ∈ X.pn ++ pins, p.1 ≠ b
theorem Inv.fpOk {X : Cx} {pins : List (Addr × Obj)} {σ : St} {H H' : Hp} {s : Shared} {b : Addr} (I : Inv X pins σ H s) (hb : s.heap.objs.size ≤ b) (hn : H' b = none) : FpOk X pins H' b := by
  refine ⟨hn, Nat.ne_of_gt (Nat.lt_of_lt_of_le I.lt hb), I.nofs hb, .inr (Nat.le_trans I.sz hb), fun x c e z => ?_, fun p hp z => ?_⟩
  · obtain ⟨v, q⟩ := I.cell x c e
    exact absurd (Nat.lt_of_lt_of_le q.lt (by rw [z]; exact hb)) (Nat.lt_irrefl _)
  · exact absurd (Nat.lt_of_lt_of_le (Heap.lt_size (I.pin p hp).1) (by rw [z]; exact hb)) (Nat.lt_irrefl _)
structure Turn (P : Program) (w : World) (K : PySem.W.Frag) (tg : Expr) (J : It) (fp : List Addr) (it : Addr) (tn : Nat → Heap → Prop) : Prop where
  mem : it ∈ fp
  obj : ∀ i h, tn i h → ∀ b ∈ fp, ∃ o, h.get? b = some o ∧ ∀ v, o.data ≠ .cell v
  keep : ∀ i h h', tn i h → (∀ b ∈ fp, ∀ o, h.get? b = some o → h'.get? b = some o) → tn i h'
  item : ∀ (X : Cx), X.prog = P → X.w = w → X.K = K → X.calm = true → ∀ (i : Nat) (pins : List (Addr × Obj)) (s : Shared) (σ : St) (H : Hp) (E : Value → Shared → Prop), Inv X pins σ H s → (∀ b ∈ fp, FpOk X pins H b) → tn i s.heap → J.go i H →
    wpAny (model P w) X.A (pyNext (.ref it)) (fun r s1 => ∃ u, r = some u ∧
      wpAny (model P w) X.A (letOwnedTupleGo tg (.ref it) u) (fun _ s2 => ∃ x H', Inv X pins σ H' s2 ∧ RelV x u ∧ J.yld i H x H' ∧ tn (i + 1) s2.heap ∧ ∀ b ∈ fp, H' b = none) E s1) E s
  done : ∀ (X : Cx), X.prog = P → X.w = w → X.K = K → X.calm = true → ∀ (i : Nat) (pins : List (Addr × Obj)) (s : Shared) (σ : St) (H : Hp) (E : Value → Shared → Prop), Inv X pins σ H s → (∀ b ∈ fp, FpOk X pins H b) → tn i s.heap → J.stop i H →
    wpAny (model P w) X.A (pyNext (.ref it)) (fun r s1 => r = none ∧ Inv X pins σ H s1) E s
  self : ∀ (A : Around) (i : Nat) (s : Shared) (Q : Value → Shared → Prop) (E : Value → Shared → Prop), tn i s.heap → Q (.ref it) s → wpAny (model P w) A (pyIter (.ref it)) Q E s
abbrev TI := St → Hp → (It → Hp → Prop) → Prop
/-- an iterator has come -/
def PIE (X : Cx) (pins : List (Addr × Obj)) (σ : St) (tg : Expr) (R : It → Hp → Prop) (itv : Value) (s2 : Shared) : Prop :=
  ∃ (it : Addr) (fp : List Addr) (tn : Nat → Heap → Prop) (J : It) (H' : Hp), itv = .ref it ∧ Inv X pins σ H' s2 ∧ Turn X.prog X.w X.K tg J fp it tn ∧ tn 0 s2.heap ∧ (∀ b ∈ fp, FpOk X pins H' b) ∧ R J H'
def PI (X : Cx) (tg iter : Expr) (wi : TI) : Prop :=
  ∀ (pins : List (Addr × Obj)) (s : Shared) (σ : St) (H : Hp) (R : It → Hp → Prop), Inv X pins σ H s → wi σ H R →
    wpAny (model X.prog X.w) X.A (eval iter X.env) (fun v s1 => wpAny (model X.prog X.w) X.A (pyIter v) (PIE X pins σ tg R) X.xe s1) X.xe s

/-- the step ahead of the store is nothing for an iterator that keeps no tuple -/
theorem go_of {M : Model} {A : Around} {E : Value → Shared → Prop} {s : Shared} {tg : Expr} {it : Addr} {u : Value} {o : Obj} {n : String} {vs : Array Value} {Q : Unit → Shared → Prop} (ho : s.heap.get? it = some o) (hc : o.cls = .type n) (hd : o.data = .fields vs)
    (hn : ["enumerate", "zip", "dict_itemiterator", "dict_reverseitemiterator", "odict_iterator", "itertools.zip_longest", "itertools.pairwise"].contains n = false) (hQ : Q () s) : wpAny M A (letOwnedTupleGo tg (.ref it) u) Q E s := by
  unfold letOwnedTupleGo
  cases tg <;> first
    | exact wpAny_pure hQ
    | (cases u <;> first
        | exact wpAny_pure hQ
        | (refine wpAny_bind (wpAny_load ho ?_)
           rw [hc, hd]
           show wpAny M A (if (["enumerate", "zip", "dict_itemiterator", "dict_reverseitemiterator", "odict_iterator", "itertools.zip_longest", "itertools.pairwise"].contains n && vs[0]? == some (rawInt _)) = true then _ else _) Q E s
           rw [if_neg (by intro h; rw [hn, Bool.false_and] at h; cases h)]
           exact wpAny_pure hQ))

/-- the list at a, as it stands at each turn (a loop may append to it) -/
def Itl (K : PySem.W.Frag) (a : Addr) : It :=
  ⟨fun i H => ∃ xs x, SqL K H a xs ∧ xs[i]? = some x, fun i H x H' => H' = H ∧ ∀ xs, SqL K H a xs → xs[i]? = some x, fun i H => ∃ xs, SqL K H a xs ∧ xs.length ≤ i⟩
def Itt (K : PySem.W.Frag) (a : Addr) : It :=
  ⟨fun i H => ∃ xs x, SqT K H a xs ∧ xs[i]? = some x, fun i H x H' => H' = H ∧ ∀ xs, SqT K H a xs → xs[i]? = some x, fun i H => ∃ xs, SqT K H a xs ∧ xs.length ≤ i⟩
/-- lo, lo + 1, .. (n of them) -/
def Itr (lo : Int) (n : Nat) : It := ⟨fun i _ => i < n, fun i H x H' => H' = H ∧ x = .int (lo + i), fun i _ => n ≤ i⟩
theorem turn_list {P : Program} {w : World} {K : PySem.W.Frag} {tg : Expr} (a it : Addr) : Turn P w K tg (Itl K a) [it] it (fun i h => h.IsListIter it a i) where
  mem := by simp
  obj := fun i h st b hb => by
    have e : b = it := by simpa using hb
    subst e
    obtain ⟨o, e, c, d⟩ := st
    exact ⟨o, e, fun v z => by rw [d] at z; cases z⟩
  keep := fun i h h' st k => st.at fun o e => k it (by simp) o e
  item := by
    intro X hP hw hK hc i pins s σ H E I hf st hg
    subst hP hw hK
    obtain ⟨xs, x, hq, hx⟩ := hg
    obtain ⟨its, rv, p, hz⟩ := I.list hq
    obtain ⟨u, hu, ru⟩ := rv.get hx
    obtain ⟨f0, f1, f2, f3, f4, f5⟩ := hf it (by simp)
    refine wpAny_pyNext_list_item st p.isList (x := u) (by simpa using hu) fun h' st' sb => ?_
    have I1 : Inv X pins σ H { s with heap := h' } := I.turned (t' := s.toks) (fun b o hb e => (sb.2 b hb).trans e) f0 f1 f3 f4 f5
    obtain ⟨o, e, c, d⟩ := id st'
    exact ⟨u, rfl, go_of (s := { s with heap := h' }) e c d (by decide) ⟨x, H, I1, ru, ⟨rfl, fun ys hy => by rw [I.list_inj hy hq]; exact hx⟩, st', fun b hb => (hf b hb).1⟩⟩
  done := by
    intro X hP hw hK hc i pins s σ H E I hf st hg
    subst hP hw hK
    obtain ⟨xs, hq, hx⟩ := hg
    obtain ⟨its, rv, p, hz⟩ := I.list hq
    obtain ⟨f0, f1, f2, f3, f4, f5⟩ := hf it (by simp)
    have hl := rv.length
    exact wpAny_pyNext_list_end (I.ok.hd hc) st p.isList (by simp; omega) fun h' eb => ⟨rfl, I.turned (t' := s.toks) (fun b o hb e => eb b o hb e) f0 f1 f3 f4 f5⟩
  self := fun _ _ _ _ _ st h => wpAny_pyIter_listiter st h
theorem turn_tuple {P : Program} {w : World} {K : PySem.W.Frag} {tg : Expr} (a it : Addr) : Turn P w K tg (Itt K a) [it] it (fun i h => h.IsTupleIter it a i) where
  mem := by simp
  obj := fun i h st b hb => by
    have e : b = it := by simpa using hb
    subst e
    obtain ⟨o, e, c, d⟩ := st
    exact ⟨o, e, fun v z => by rw [d] at z; cases z⟩
  keep := fun i h h' st k => st.at fun o e => k it (by simp) o e
  item := by
    intro X hP hw hK hc i pins s σ H E I hf st hg
    subst hP hw hK
    obtain ⟨xs, x, hq, hx⟩ := hg
    obtain ⟨its, rv, p, hz⟩ := I.tuple hq
    obtain ⟨u, hu, ru⟩ := rv.get hx
    obtain ⟨f0, f1, f2, f3, f4, f5⟩ := hf it (by simp)
    refine wpAny_pyNext_tuple_item st (show s.heap.IsTuple a its.toArray from p) (x := u) (by simpa using hu) fun h' st' sb => ?_
    have I1 : Inv X pins σ H { s with heap := h' } := I.turned (t' := s.toks) (fun b o hb e => (sb.2 b hb).trans e) f0 f1 f3 f4 f5
    obtain ⟨o, e, c, d⟩ := id st'
    exact ⟨u, rfl, go_of (s := { s with heap := h' }) e c d (by decide) ⟨x, H, I1, ru, ⟨rfl, fun ys hy => by rw [I.tuple_inj hy hq]; exact hx⟩, st', fun b hb => (hf b hb).1⟩⟩
  done := by
    intro X hP hw hK hc i pins s σ H E I hf st hg
    subst hP hw hK
    obtain ⟨xs, hq, hx⟩ := hg
    obtain ⟨its, rv, p, hz⟩ := I.tuple hq
    obtain ⟨f0, f1, f2, f3, f4, f5⟩ := hf it (by simp)
    have hl := rv.length
    exact wpAny_pyNext_tuple_end (I.ok.hd hc) st (show s.heap.IsTuple a its.toArray from p) (by simp; omega) fun h' eb => ⟨rfl, I.turned (t' := s.toks) (fun b o hb e => eb b o hb e) f0 f1 f3 f4 f5⟩
  self := fun _ _ _ _ _ st h => wpAny_pyIter_tupleiter st h
theorem turn_range {P : Program} {w : World} {K : PySem.W.Frag} {tg : Expr} (it : Addr) (lo : Int) (n : Nat) : Turn P w K tg (Itr lo n) [it] it (fun i h => IsRangeIter h it (lo + (i : Nat) * 1) ((n : Int) - (i : Nat)) 1) where
  mem := by simp
  obj := fun i h st b hb => by
    have e : b = it := by simpa using hb
    subst e
    exact ⟨_, st, fun v z => by
      have z' : Data.fields _ = Data.cell v := z
      cases z'⟩
  keep := fun i h h' st k => k it (by simp) _ st
  item := by
    intro X hP hw hK hc i pins s σ H E I hf st hg
    subst hP hw hK
    obtain ⟨f0, f1, f2, f3, f4, f5⟩ := hf it (by simp)
    have W := Walks.range (prog := X.prog) (w := X.w) (I.ok.hd hc) it lo 1 n
    refine W.item i s _ _ hg st fun v h' tk hv st' kk => ?_
    obtain ⟨t, rfl⟩ := hv
    have I1 : Inv X pins σ H { s with heap := h', toks := tk } := I.turned (fun b o hb e => kk b o (by simpa using hb) e) f0 f1 f3 f4 f5
    refine ⟨_, rfl, go_of (s := { s with heap := h', toks := tk }) (n := "range_iterator") st' rfl rfl (by decide) ⟨.int (lo + i), H, I1, ⟨t, ?_⟩, ⟨rfl, rfl⟩, st', fun b hb => (hf b hb).1⟩⟩
    rw [Int.mul_one]
  done := by
    intro X hP hw hK hc i pins s σ H E I hf st hg
    subst hP hw hK
    obtain ⟨f0, f1, f2, f3, f4, f5⟩ := hf it (by simp)
    exact wpAny_pyNext_range_end (I.ok.hd hc) st (by have : n ≤ i := hg; omega) fun h' eb => ⟨rfl, I.turned (t' := s.toks) (fun b o hb e => eb b o hb e) f0 f1 f3 f4 f5⟩
  self := fun _ _ _ _ _ st h => wpAny_pyIter_rangeiter st h
end L2

namespace L2
open PySem PySem.Spec PyProof.Rows
section
variable {X : Cx} {tg : Expr}
def iList (K : PySem.W.Frag) (tl : TE) : TI := fun σ H R => tl σ H fun x H1 => ∃ a, x = .ref a ∧ (∃ xs, SqL K H1 a xs) ∧ R (Itl K a) H1
def iTup (K : PySem.W.Frag) (tl : TE) : TI := fun σ H R => tl σ H fun x H1 => ∃ a, x = .ref a ∧ (∃ xs, SqT K H1 a xs) ∧ R (Itt K a) H1
theorem pi_list {l : Expr} {tl : TE} (hl : PE X l tl) : PI X tg l (iList X.K tl) := by
  intro pins s σ H R I h
  refine thn (hl pins s σ H _ I h) fun v s1 ⟨x, H1, I1, r1, q1⟩ => ?_
  obtain ⟨a, e, ⟨xs, hq⟩, q⟩ := q1
  subst e
  cases r1
  obtain ⟨its, rv, p, hz⟩ := I1.list hq
  refine wpAny_pyIter_list p.isList ?_
  refine ⟨s1.heap.objs.size, [s1.heap.objs.size], _, _, H1, rfl, I1.kept (t' := s1.toks) fun b o e => Heap.get?_push_of_some _ e, turn_list a _, ⟨_, Heap.get?_push_size _ rfl, rfl, rfl⟩, fun b hb => ?_, q⟩
  have e : b = s1.heap.objs.size := by simpa using hb
  subst e
  exact I1.fpOk (Nat.le_refl _) (I1.hok.fresh (Nat.le_refl _))
theorem pi_tup {l : Expr} {tl : TE} (hl : PE X l tl) : PI X tg l (iTup X.K tl) := by
  intro pins s σ H R I h
  refine thn (hl pins s σ H _ I h) fun v s1 ⟨x, H1, I1, r1, q1⟩ => ?_
  obtain ⟨a, e, ⟨xs, hq⟩, q⟩ := q1
  subst e
  cases r1
  obtain ⟨its, rv, p, hz⟩ := I1.tuple hq
  refine wpAny_pyIter_tuple (show s1.heap.IsTuple a its.toArray from p) ?_
  refine ⟨s1.heap.objs.size, [s1.heap.objs.size], _, _, H1, rfl, I1.kept (t' := s1.toks) fun b o e => Heap.get?_push_of_some _ e, turn_tuple a _, ⟨_, Heap.get?_push_size _ rfl, rfl, rfl⟩, fun b hb => ?_, q⟩
  have e : b = s1.heap.objs.size := by simpa using hb
  subst e
  exact I1.fpOk (Nat.le_refl _) (I1.hok.fresh (Nat.le_refl _))
/-- a range object just made, walked -/
theorem range_it {pins : List (Addr × Obj)} {σ : St} {H : Hp} {s : Shared} {R : It → Hp → Prop} {E : Value → Shared → Prop} {lo hi : Int} {t u v : Tok} {tk : Nat} (I : Inv X pins σ H s) (h1 : -(2 ^ 62) ≤ lo) (h2 : lo < 2 ^ 62) (h3 : -(2 ^ 62) ≤ hi) (h4 : hi < 2 ^ 62)
    (q : R (Itr lo (hi - lo).toNat) H) : wpAny (model X.prog X.w) X.A (pyIter (.ref s.heap.objs.size)) (PIE X pins σ tg R) E { s with heap := s.heap.push { cls := .type "range", data := .fields #[.int lo t, .int hi u, .int 1 v] }, toks := tk } := by
  refine wpAny_pyIter_range (IsRange.new ..) (small_one h1 h2 h3 h4) ?_
  have I1 : Inv X pins σ H { s with heap := s.heap.push { cls := .type "range", data := .fields #[.int lo t, .int hi u, .int 1 v] }, toks := tk } := I.kept fun b o e => Heap.get?_push_of_some _ e
  refine ⟨(s.heap.push { cls := .type "range", data := .fields #[.int lo t, .int hi u, .int 1 v] }).objs.size, [(s.heap.push { cls := .type "range", data := .fields #[.int lo t, .int hi u, .int 1 v] }).objs.size], _, _, H, rfl,
    I1.kept (t' := tk) fun b o e => Heap.get?_push_of_some _ e, turn_range _ lo (hi - lo).toNat, ?_, fun b hb => ?_, q⟩
  · have e1 : lo + ((0 : Nat) : Int) * 1 = lo := by simp
    have e2 : (((hi - lo).toNat : Nat) : Int) - ((0 : Nat) : Int) = Builtin.Range.rangeSize lo hi 1 := by rw [rangeSize_one]; split <;> omega
    show IsRangeIter _ _ (lo + ((0 : Nat) : Int) * 1) ((((hi - lo).toNat : Nat) : Int) - ((0 : Nat) : Int)) 1
    rw [e1, e2]
    exact Heap.get?_push_size _ rfl
  · have e : b = (s.heap.push { cls := .type "range", data := .fields #[.int lo t, .int hi u, .int 1 v] }).objs.size := by simpa using hb
    subst e
    exact I1.fpOk (Nat.le_refl _) (I1.hok.fresh (Nat.le_refl _))
def iRng1 (ta : TA) : TI := fun σ H R => ta σ H fun vs H1 => ∃ j : Int, vs = [.int j] ∧ -(2 ^ 62) ≤ j ∧ j < 2 ^ 62 ∧ R (Itr 0 j.toNat) H1
def iRng2 (ta : TA) : TI := fun σ H R => ta σ H fun vs H1 => ∃ i j : Int, vs = [.int i, .int j] ∧ (-(2 ^ 62) ≤ i ∧ i < 2 ^ 62 ∧ -(2 ^ 62) ≤ j ∧ j < 2 ^ 62) ∧ R (Itr i (j - i).toNat) H1
theorem pi_range1 {a : Expr} {ta : TA} {p pos : Pos} (hg : Gl X "range") (hm : X.mg "range" = none) (ha : PA X [a] ta) (hs : starEach [a] X.env = [(false, eval a X.env)] := by rfl) : PI X tg (.Call (.Name "range" p) [a] [] pos) (iRng1 ta) := by
  intro pins s σ H R I h
  refine Call_ (ld_blt I hg hm boot_range (PyProof.Rows.callWith_type1 (thn (ha pos pins s σ H _ I h) fun us s1 ⟨vs, H1, I1, r1, q1⟩ => ?_) hs rfl))
  obtain ⟨j, e, q1, q2, q⟩ := q1
  subst e
  cases r1 with
  | cons r rr =>
    cases rr
    obtain ⟨t, rfl⟩ := r
    exact call_range_1 (range_it I1 (by omega) (by omega) q1 q2 (by simpa using q))
theorem pi_range2 {a b : Expr} {ta : TA} {p pos : Pos} (hg : Gl X "range") (hm : X.mg "range" = none) (ha : PA X [a, b] ta) (hs : starEach [a, b] X.env = [(false, eval a X.env), (false, eval b X.env)] := by rfl) (hs2 : starEach [b] X.env = [(false, eval b X.env)] := by rfl) :
    PI X tg (.Call (.Name "range" p) [a, b] [] pos) (iRng2 ta) := by
  intro pins s σ H R I h
  refine Call_ (ld_blt I hg hm boot_range (PyProof.Rows.callWith_type1 (thn (ha pos pins s σ H _ I h) fun us s1 ⟨vs, H1, I1, r1, q1⟩ => ?_) (by rw [hs, hs2]) (by rw [hs2]; rfl)))
  obtain ⟨i, j, e, ⟨q1, q2, q3, q4⟩, q⟩ := q1
  subst e
  cases r1 with
  | cons r rr =>
    cases rr with
    | cons r' rr =>
      cases rr
      obtain ⟨t, rfl⟩ := r
      obtain ⟨t', rfl⟩ := r'
      exact call_range_2 (range_it I1 q1 q2 q3 q4 q)

/-! ### for -/
/-- W: the invariant by the turn and a measure; N: what the body is to reach -/
def tFor (wi : TI) (g : TG) (tb : TS) : TS := fun D σ H => wi σ H fun J H1 => ∃ W : Nat → Nat → St → Hp → Prop, (∃ m, W 0 m σ H1) ∧ ∀ i m σ H, W i m σ H →
  (J.stop i H ∧ D.nx σ H) ∨ (J.go i H ∧ ∃ N : St → Hp → Prop, (∀ σ' H', N σ' H' → ∃ m', m' < m ∧ W (i + 1) m' σ' H') ∧ ∀ x H', J.yld i H x H' → g x σ H' fun σ2 H2 => tb { D with nx := N, ct := N, bk := D.nx } σ2 H2)
/-- the records at fp as they stand -/
def pinsAt (fp : List Addr) (h : Heap) : List (Addr × Obj) := fp.filterMap fun b => (h.get? b).map fun o => (b, o)
theorem mem_pinsAt {fp : List Addr} {h : Heap} {b : Addr} {o : Obj} (hb : b ∈ fp) (e : h.get? b = some o) : (b, o) ∈ pinsAt fp h := List.mem_filterMap.mpr ⟨b, hb, by rw [e]; rfl⟩
theorem of_pinsAt {fp : List Addr} {h : Heap} {p : Addr × Obj} (hp : p ∈ pinsAt fp h) : p.1 ∈ fp ∧ h.get? p.1 = some p.2 := by
  obtain ⟨b, hb, e⟩ := List.mem_filterMap.mp hp
  cases q : h.get? b with
  | none => rw [q] at e; cases e
  | some o =>
    rw [q] at e
    have e' : (b, o) = p := Option.some.inj e
    subst e'
    exact ⟨hb, q⟩
theorem Inv.pinned {pins : List (Addr × Obj)} {σ : St} {H : Hp} {s : Shared} {fp : List Addr} (I : Inv X pins σ H s) (hf : ∀ b ∈ fp, FpOk X pins H b) (ho : ∀ b ∈ fp, ∃ o, s.heap.get? b = some o ∧ ∀ v, o.data ≠ .cell v) : Inv X (pins ++ pinsAt fp s.heap) σ H s :=
  I.pins_of fun p hp => (List.mem_append.mp hp).elim (fun z => I.pin p (List.mem_append_right _ z)) fun z => by
    obtain ⟨hb, e⟩ := of_pinsAt z
    obtain ⟨f0, f1, f2, _⟩ := hf p.1 hb
    obtain ⟨o, e', d⟩ := ho p.1 hb
    rw [e] at e'; cases e'
    exact ⟨e, f0, f1, f2, d⟩
theorem Inv.unpinned {pins pl : List (Addr × Obj)} {σ : St} {H : Hp} {s : Shared} (I : Inv X (pins ++ pl) σ H s) : Inv X pins σ H s := I.pins_of fun p hp => I.pin p (List.mem_append_right _ (List.mem_append_left _ hp))
theorem ps_for {iter : Expr} {body : List Stmt} {wi : TI} {g : TG} {tb : TS} {pos : Pos} (hp : PassesOwn (model X.prog X.w) X.A X.env X.xe) (hc : X.calm = true) (hi : PI X tg iter wi) (hg : PG X tg g) (hb : PSs X body tb)
    (hs : ∀ x, foldedSetIterable iter X.env x = pure x := by intro _; rfl) : PS X (.For tg iter body [] pos) (tFor wi g tb) := by
  intro pins s σ H D I h
  refine wpAny_For (thn (hi pins s σ H _ I h) fun v s1 h1 => thn h1 fun itv s2 h2 => ?_) hs
  obtain ⟨it, fp, tn, J, H2, e, I2, T, st2, f2, W, ⟨m0, w0⟩, turn⟩ := h2
  subst e
  -- what stays true of the iterator's objects through the loop
  have stat : ∀ {H' : Hp}, (∀ b ∈ fp, H' b = none) → ∀ b ∈ fp, FpOk X pins H' b := fun hn b hb => ⟨hn b hb, (f2 b hb).2⟩
  refine codeAny_forLoop_any (fun n s' => ∃ i σ' H', Inv X pins σ' H' s' ∧ tn i s'.heap ∧ (∀ b ∈ fp, H' b = none) ∧ W i n σ' H') ?_ m0 ⟨0, σ, H2, I2, st2, fun b hb => (f2 b hb).1, w0⟩
  rintro n s3 ⟨i, σ3, H3, I3, st3, fr3, w3⟩
  rcases turn i n σ3 H3 w3 with ⟨stop, qn⟩ | ⟨go, N, hN, step⟩
  · refine wpAny_passesOwn hp (thn (T.done X rfl rfl rfl hc i pins s3 σ3 H3 X.xe I3 (stat fr3) st3 stop) fun r s4 ⟨hr, I4⟩ => ?_)
    subst hr
    exact wpAny_execs_nil ⟨σ3, H3, I4, qn⟩
  · refine wpAny_passesOwn hp (thn (T.item X rfl rfl rfl hc i pins s3 σ3 H3 X.xe I3 (stat fr3) st3 go) fun r s4 ⟨u, hr, h4⟩ => ?_)
    subst hr
    refine wpAny_passesOwn hp (thn h4 fun _ s5 ⟨x, H5, I5, r5, y5, st5, fr5⟩ => ?_)
    have I5' := I5.pinned (stat fr5) (T.obj _ _ st5)
    refine wpAny_passesOwn hp (thn (hg _ s5 σ3 H5 x u _ I5' r5 (step x H5 y5)) fun _ s6 ⟨σ6, H6, I6, q6⟩ => ?_)
    refine wpAny_passesOwn hp (thn (hb _ s6 σ6 H6 _ I6 q6) fun f s7 q7 => ?_)
    have again : ∀ {σ7 : St} {H7 : Hp}, Inv X (pins ++ pinsAt fp s5.heap) σ7 H7 s7 → N σ7 H7 → ∃ m, m < n ∧ ∃ i σ' H', Inv X pins σ' H' s7 ∧ tn i s7.heap ∧ (∀ b ∈ fp, H' b = none) ∧ W i m σ' H' := fun {σ7 H7} I7 n7 => by
      obtain ⟨m', hm, w7⟩ := hN σ7 H7 n7
      refine ⟨m', hm, i + 1, σ7, H7, I7.unpinned, T.keep _ _ _ st5 fun b hb o e => (I7.pin (b, o) (List.mem_append_right _ (List.mem_append_right _ (mem_pinsAt hb e)))).1, fun b hb => ?_, w7⟩
      obtain ⟨o, e, d⟩ := T.obj _ _ st5 b hb
      exact (I7.pin (b, o) (List.mem_append_right _ (List.mem_append_right _ (mem_pinsAt hb e)))).2.1
    cases f with
    | next => obtain ⟨σ7, H7, I7, n7⟩ := q7; exact again I7 n7
    | cont => obtain ⟨σ7, H7, I7, n7⟩ := q7; exact again I7 n7
    | brk => obtain ⟨σ7, H7, I7, q7⟩ := q7; exact ⟨σ7, H7, I7.unpinned, q7⟩
    | ret v => obtain ⟨x7, σ7, H7, I7, r7, q7⟩ := q7; exact ⟨x7, σ7, H7, I7.unpinned, r7, q7⟩
end

/-! ### the forms one uses -/
/-- over a list that the body leaves as it is -/
theorem for_list {K : PySem.W.Frag} {a : Addr} {xs : List V} {g : TG} {tb : TS} {D : Ends} {σ : St} {H : Hp} (Pv : Nat → St → Hp → Prop) (h0 : Pv 0 σ H) (hl : ∀ i σ H, i ≤ xs.length → Pv i σ H → SqL K H a xs)
    (hs : ∀ i x σ H, xs[i]? = some x → Pv i σ H → g x σ H fun σ2 H2 => tb { D with nx := Pv (i + 1), ct := Pv (i + 1), bk := D.nx } σ2 H2) (hd : ∀ σ H, Pv xs.length σ H → D.nx σ H) :
    ∃ W : Nat → Nat → St → Hp → Prop, (∃ m, W 0 m σ H) ∧ ∀ i m σ H, W i m σ H →
      ((Itl K a).stop i H ∧ D.nx σ H) ∨ ((Itl K a).go i H ∧ ∃ N : St → Hp → Prop, (∀ σ' H', N σ' H' → ∃ m', m' < m ∧ W (i + 1) m' σ' H') ∧ ∀ x H', (Itl K a).yld i H x H' → g x σ H' fun σ2 H2 => tb { D with nx := N, ct := N, bk := D.nx } σ2 H2) := by
  refine ⟨fun i m σ H => m = xs.length - i ∧ i ≤ xs.length ∧ Pv i σ H, ⟨xs.length, by simp, Nat.zero_le _, h0⟩, ?_⟩
  rintro i m σ H ⟨rfl, hi, p⟩
  have q := hl i σ H hi p
  by_cases hlt : i < xs.length
  · refine .inr ⟨⟨xs, xs[i], q, by simp [hlt]⟩, Pv (i + 1), fun σ' H' p' => ⟨xs.length - (i + 1), by omega, rfl, hlt, p'⟩, fun x H' y => ?_⟩
    obtain ⟨e, y⟩ := y
    subst e
    exact hs i x σ _ (y xs q) p
  · have e : i = xs.length := by omega
    subst e
    exact .inl ⟨⟨xs, q, Nat.le_refl _⟩, hd σ H p⟩
theorem for_range {lo : Int} {n : Nat} {g : TG} {tb : TS} {D : Ends} {σ : St} {H : Hp} (Pv : Nat → St → Hp → Prop) (h0 : Pv 0 σ H)
    (hs : ∀ i σ H, i < n → Pv i σ H → g (.int (lo + i)) σ H fun σ2 H2 => tb { D with nx := Pv (i + 1), ct := Pv (i + 1), bk := D.nx } σ2 H2) (hd : ∀ σ H, Pv n σ H → D.nx σ H) :
    ∃ W : Nat → Nat → St → Hp → Prop, (∃ m, W 0 m σ H) ∧ ∀ i m σ H, W i m σ H →
      ((Itr lo n).stop i H ∧ D.nx σ H) ∨ ((Itr lo n).go i H ∧ ∃ N : St → Hp → Prop, (∀ σ' H', N σ' H' → ∃ m', m' < m ∧ W (i + 1) m' σ' H') ∧ ∀ x H', (Itr lo n).yld i H x H' → g x σ H' fun σ2 H2 => tb { D with nx := N, ct := N, bk := D.nx } σ2 H2) := by
  refine ⟨fun i m σ H => m = n - i ∧ i ≤ n ∧ Pv i σ H, ⟨n, by simp, Nat.zero_le _, h0⟩, ?_⟩
  rintro i m σ H ⟨rfl, hi, p⟩
  by_cases hlt : i < n
  · refine .inr ⟨hlt, Pv (i + 1), fun σ' H' p' => ⟨n - (i + 1), by omega, rfl, hlt, p'⟩, fun x H' y => ?_⟩
    obtain ⟨e, y⟩ := y
    subst e y
    exact hs i σ _ hlt p
  · have e : i = n := by omega
    subst e
    exact .inl ⟨Nat.le_refl _, hd σ H p⟩
end L2

namespace L2
open PySem PySem.Spec PyProof.Rows

abbrev R2 := V → V → Hp → VK → Prop
/-- a two-place operation on values: f is binaryOp op, inplaceOp op or compareOp op -/
def OpR (X : Cx) (f : Value → Value → Sem Value) (r : R2) : Prop :=
  ∀ (pins : List (Addr × Obj)) (s : Shared) (σ : St) (H : Hp) (x y : V) (v u : Value) (Q : VK), Inv X pins σ H s → RelV x v → RelV y u → r x y H Q →
    wpAny (model X.prog X.w) X.A (f v u) (EP X pins σ Q) X.xe s
/-- a one-place operation -/
def UnR (X : Cx) (f : Value → Sem Value) (r : V → Hp → VK → Prop) : Prop :=
  ∀ (pins : List (Addr × Obj)) (s : Shared) (σ : St) (H : Hp) (x : V) (v : Value) (Q : VK), Inv X pins σ H s → RelV x v → r x H Q →
    wpAny (model X.prog X.w) X.A (f v) (EP X pins σ Q) X.xe s
/-- a call of a value that is known (a builtin, a type) with values -/
def CallR (X : Cx) (f : Value) (r : List V → Hp → VK → Prop) : Prop :=
  ∀ (pins : List (Addr × Obj)) (s : Shared) (σ : St) (H : Hp) (xs : List V) (us : List Value) (Q : VK), Inv X pins σ H s → Vals xs us → r xs H Q →
    wpAny (model X.prog X.w) X.A (call f us) (EP X pins σ Q) X.xe s
def tOp (r : R2) (ta tb : TE) : TE := fun σ H Q => ta σ H fun x H1 => tb σ H1 fun y H2 => r x y H2 Q
def tUn (r : V → Hp → VK → Prop) (ta : TE) : TE := fun σ H Q => ta σ H fun x H1 => r x H1 Q
/-- ints in, under C, and a value out -/
def rI (C : Int → Int → Prop) (g : Int → Int → V) : R2 := fun x y H Q => ∃ i j, x = .int i ∧ y = .int j ∧ C i j ∧ Q (g i j) H
def rI0 (g : Int → Int → V) : R2 := fun x y H Q => ∃ i j, x = .int i ∧ y = .int j ∧ Q (g i j) H
def rU (g : Int → V) : V → Hp → VK → Prop := fun x H Q => ∃ i, x = .int i ∧ Q (g i) H

section
variable {X : Cx} {a b c : Expr} {ta tb tc : TE} {pos : Pos}

theorem binT (ha : PE X a ta) (hb : PE X b tb) {pins : List (Addr × Obj)} {s : Shared} {σ : St} {H : Hp} {R : V → V → Hp → Prop} (I : Inv X pins σ H s)
    (h : ta σ H fun x H1 => tb σ H1 fun y H2 => R x y H2) {Q : Value → Shared → Prop} {f : Value → Value → Sem Value}
    (hf : ∀ v u s2 x y H2, Inv X pins σ H2 s2 → RelV x v → RelV y u → R x y H2 → wpAny (model X.prog X.w) X.A (f v u) Q X.xe s2) :
    wpAny (model X.prog X.w) X.A (eval a X.env) (fun v s₁ => wpAny (model X.prog X.w) X.A (eval b X.env) (fun u s₂ => wpAny (model X.prog X.w) X.A (f v u) Q X.xe s₂) X.xe s₁) X.xe s := by
  refine thn (ha pins s σ H _ I h) fun v s1 ⟨x, H1, I1, r1, q1⟩ => ?_
  refine thn (hb pins s1 σ H1 _ I1 q1) fun u s2 ⟨y, H2, I2, r2, q2⟩ => ?_
  exact hf v u s2 x y H2 I2 r1 r2 q2

theorem pe_op {op : Operator} {r : R2} (ho : OpR X (binaryOp op) r) (ha : PE X a ta) (hb : PE X b tb) : PE X (.BinOp a op b pos) (tOp r ta tb) := by
  intro pins s σ H Q I h
  exact wpAny_BinOp (binT ha hb I h fun v u s2 x y H2 I2 rx ry q => ho pins s2 σ H2 x y v u Q I2 rx ry q)
theorem pe_un {op : UnaryOp} {r : V → Hp → VK → Prop} (ho : UnR X (unaryOp op) r) (ha : PE X a ta) : PE X (.UnaryOp op a pos) (tUn r ta) := by
  intro pins s σ H Q I h
  exact UnaryOp_ (thn (ha pins s σ H _ I h) fun v s1 ⟨x, H1, I1, r1, q1⟩ => ho pins s1 σ H1 x v Q I1 r1 q1)
/-! ### ints -/
theorem opI {f : Value → Value → Sem Value} {C : Int → Int → Prop} {g : Int → Int → Int}
    (rule : ∀ (i j : Int) (t u : Tok) (s : Shared) (Q : Value → Shared → Prop) (E : Value → Shared → Prop), C i j → Q (.int (g i j) s.toks) { s with toks := s.toks + 1 } → wpAny (model X.prog X.w) X.A (f (.int i t) (.int j u)) Q E s) :
    OpR X f (rI C fun i j => .int (g i j)) := by
  intro pins s σ H x y v u Q I rx ry h
  obtain ⟨i, j, rfl, rfl, hc, q⟩ := h
  obtain ⟨t, rfl⟩ := rx
  obtain ⟨t', rfl⟩ := ry
  exact rule i j t t' s _ _ hc ⟨.int (g i j), H, I.tok _, ⟨_, rfl⟩, q⟩
theorem opI0 {f : Value → Value → Sem Value} {g : Int → Int → Int}
    (rule : ∀ (i j : Int) (t u : Tok) (s : Shared) (Q : Value → Shared → Prop) (E : Value → Shared → Prop), Q (.int (g i j) s.toks) { s with toks := s.toks + 1 } → wpAny (model X.prog X.w) X.A (f (.int i t) (.int j u)) Q E s) :
    OpR X f (rI0 fun i j => .int (g i j)) := by
  intro pins s σ H x y v u Q I rx ry h
  obtain ⟨i, j, rfl, rfl, q⟩ := h
  obtain ⟨t, rfl⟩ := rx
  obtain ⟨t', rfl⟩ := ry
  exact rule i j t t' s _ _ ⟨.int (g i j), H, I.tok _, ⟨_, rfl⟩, q⟩
theorem opB0 {f : Value → Value → Sem Value} {g : Int → Int → Bool}
    (rule : ∀ (i j : Int) (t u : Tok) (s : Shared) (Q : Value → Shared → Prop) (E : Value → Shared → Prop), Q (.bool (g i j)) s → wpAny (model X.prog X.w) X.A (f (.int i t) (.int j u)) Q E s) :
    OpR X f (rI0 fun i j => .bl (g i j)) := by
  intro pins s σ H x y v u Q I rx ry h
  obtain ⟨i, j, rfl, rfl, q⟩ := h
  obtain ⟨t, rfl⟩ := rx
  obtain ⟨t', rfl⟩ := ry
  exact rule i j t t' s _ _ ⟨.bl (g i j), H, I, rfl, q⟩

def CDiv (i j : Int) : Prop := 0 < j ∧ j < 1073741824
def CPow (i j : Int) : Prop := 0 ≤ j ∧ j ≤ 1000000 ∧ i.natAbs < 2 ^ 64
def CMul (i j : Int) : Prop := (-(2 ^ 64) < i ∧ i < 2 ^ 64) ∨ (-(2 ^ 64) < j ∧ j < 2 ^ 64)
theorem CMul.ok {i j : Int} (h : CMul i j) : IntMulOk i j := by
  rcases h with ⟨h1, h2⟩ | ⟨h1, h2⟩
  · exact .of_left (intBits_le_64 h1 h2)
  · exact .of_right (intBits_le_64 h1 h2)
theorem op_add : OpR X (binaryOp .Add) (rI0 fun i j => .int (i + j)) := opI0 fun _ _ _ _ _ _ _ q => add_int q
theorem op_sub : OpR X (binaryOp .Sub) (rI0 fun i j => .int (i - j)) := opI0 fun _ _ _ _ _ _ _ q => sub_int q
theorem op_mul : OpR X (binaryOp .Mult) (rI CMul fun i j => .int (i * j)) := opI fun _ _ _ _ _ _ _ hc q => mul_int q hc.ok
/-- // by a positive divisor -/
theorem op_fdiv : OpR X (binaryOp .FloorDiv) (rI CDiv fun i j => .int (i / j)) := opI fun i j _ _ _ _ _ hc q => by
  have h1 : (0 : Int) < j := hc.1
  have h2 : j < 1073741824 := hc.2
  exact floordiv_int (by omega) (by rw [Int.fdiv_eq_ediv_of_nonneg i (by omega)]; exact q) (.inl (PyProof.noPylong_small (by omega)))
/-- % by a positive divisor of any size -/
theorem op_mod : OpR X (binaryOp .Mod) (rI (fun _ j => 0 < j) fun i j => .int (i % j)) := opI fun i j _ _ _ _ _ hc q => by
  have h1 : (0 : Int) < j := hc
  exact mod_int' (by omega) (by rw [Int.fmod_eq_emod_of_nonneg i (by omega)]; exact q)
theorem op_shl : OpR X (binaryOp .LShift) (rI CPow fun i j => .int (i * 2 ^ j.toNat)) := opI fun _ _ _ _ _ _ _ hc q => lshift_int_small hc.1 hc.2.1 hc.2.2 q
theorem unI {f : Value → Sem Value} {g : Int → Int}
    (rule : ∀ (i : Int) (t : Tok) (s : Shared) (Q : Value → Shared → Prop) (E : Value → Shared → Prop), Q (.int (g i) s.toks) { s with toks := s.toks + 1 } → wpAny (model X.prog X.w) X.A (f (.int i t)) Q E s) :
    UnR X f (rU fun i => .int (g i)) := by
  intro pins s σ H x v Q I rx h
  obtain ⟨i, rfl, q⟩ := h
  obtain ⟨t, rfl⟩ := rx
  exact rule i t s _ _ ⟨.int (g i), H, I.tok _, ⟨_, rfl⟩, q⟩
theorem un_neg : UnR X (unaryOp .USub) (rU fun i => .int (-i)) := unI fun _ _ _ _ _ q => neg_int q
/-! ### bools among ints: n += (a < b) -/
end

/-! ### comparisons -/
section
variable {X : Cx} {a b c : Expr} {ta tb tc : TE} {pos : Pos}
theorem fin_bl {pins : List (Addr × Obj)} {σ : St} {H : Hp} {s : Shared} {Q : VK} {k k' : Bool} (I : Inv X pins σ H s) (q : Q (.bl k) H) (e : k = k') : EP X pins σ Q (.bool k') s := by
  subst e
  exact ⟨.bl k, H, I, rfl, q⟩
theorem op_lt : OpR X (compareOp .Lt) (rI0 fun i j => .bl (decide (i < j))) := opB0 fun _ _ _ _ _ _ _ q => lt_int q
theorem op_le : OpR X (compareOp .LtE) (rI0 fun i j => .bl (decide (i ≤ j))) := opB0 fun _ _ _ _ _ _ _ q => le_int q
theorem op_gt : OpR X (compareOp .Gt) (rI0 fun i j => .bl (decide (j < i))) := opB0 fun _ _ _ _ _ _ _ q => gt_int q
/-- the one string within the other -/
theorem op_in_str : OpR X (compareOp .In) (fun x y H Q => ∃ i j, x = .str i ∧ y = .str j ∧ Q (.bl (!(Builtin.Str.occurrences j i 0 j.length 1).isEmpty)) H) := by
  intro pins s σ H x y v u Q I rx ry h
  obtain ⟨i, j, rfl, rfl, q⟩ := h
  obtain ⟨t, rfl⟩ := rx
  obtain ⟨t', rfl⟩ := ry
  exact in_str (fin_bl I q rfl)

/-- two rules for one operation: by cases -/
theorem OpR.or {f : Value → Value → Sem Value} {r r' : R2} (h : OpR X f r) (h' : OpR X f r') : OpR X f (fun x y H Q => r x y H Q ∨ r' x y H Q) := by
  intro pins s σ H x y v u Q I rx ry q
  rcases q with q | q
  · exact h pins s σ H x y v u Q I rx ry q
  · exact h' pins s σ H x y v u Q I rx ry q

theorem nomark (b : Expr) {op : CmpOp} (h : op ≠ .In := by decide) (h2 : op ≠ .NotIn := by decide) : behindInMarks op b = false := by
  have e1 : (op == CmpOp.In) = false := by cases op <;> first | rfl | exact absurd rfl h
  have e2 : (op == CmpOp.NotIn) = false := by cases op <;> first | rfl | exact absurd rfl h2
  cases b <;> simp [behindInMarks, e1, e2]
/-- a comparison as a value; hm: nomark b, or (for in, not in) by with_unfolding_all rfl -/
theorem pe_cmpR {op : CmpOp} {r : R2} (ho : OpR X (compareOp op) r) (ha : PE X a ta) (hb : PE X b tb) (hm : behindInMarks op b = false) : PE X (.Compare a [op] [b] pos) (tOp r ta tb) := by
  intro pins s σ H Q I h
  exact wpAny_Compare1 (binT ha hb I h fun v u s2 x y H2 I2 rx ry q => ho pins s2 σ H2 x y v u Q I2 rx ry q) hm
/-- a reading of a value as a test -/
def tTest (t : TE) : TT := fun σ H Q => t σ H fun x H' => ∃ k, x = .bl k ∧ Q k H'
theorem pt_cmpR {op : CmpOp} {r : R2} (ho : OpR X (compareOp op) r) (ha : PE X a ta) (hb : PE X b tb) (hm : behindInMarks op b = false) : PT X (.Compare a [op] [b] pos) (tTest (tOp r ta tb)) := by
  intro pins s σ H Q I h
  refine wpAny_isTrue_Compare1 (thn (ha pins s σ H _ I h) fun v s1 ⟨x, H1, I1, r1, q1⟩ => thn (hb pins s1 σ H1 _ I1 q1) fun u s2 ⟨y, H2, I2, r2, q2⟩ =>
    thn (ho pins s2 σ H2 x y v u _ I2 r1 r2 q2) fun c s3 ⟨z, H3, I3, r3, k, e, q3⟩ => ?_) hm
  subst e
  cases r3
  exact wpAny_truthy_bool ⟨H3, I3, q3⟩
/-- a op1 b op2 c -/
def tChain (r r' : R2) (ta tb tc : TE) : TE := fun σ H Q => ta σ H fun x H1 => tb σ H1 fun y H2 => r x y H2 fun z H3 => ∃ k, z = .bl k ∧
  (if k = true then tc σ H3 fun w' H4 => r' y w' H4 Q else Q (.bl false) H3)
theorem pt_chain {op op' : CmpOp} {r r' : R2} (ho : OpR X (compareOp op) r) (ho' : OpR X (compareOp op') r') (ha : PE X a ta) (hb : PE X b tb) (hc : PE X c tc)
    (hm : lastMarks [op, op'] [b, c] = false := by with_unfolding_all rfl) : PT X (.Compare a [op, op'] [b, c] pos) (tTest (tChain r r' ta tb tc)) := by
  intro pins s σ H Q I h
  refine isTrue_chain (thn (ha pins s σ H _ I h) fun v s1 ⟨x, H1, I1, r1, q1⟩ => test_link (thn (hb pins s1 σ H1 _ I1 q1) fun u s2 ⟨y, H2, I2, r2, q2⟩ =>
    thn (ho pins s2 σ H2 x y v u _ I2 r1 r2 q2) fun d s3 ⟨z, H3, I3, r3, k, e, q3⟩ => ?_)) hm
  subst e
  cases r3
  refine wpAny_truthy_bool ?_
  cases k with
  | false =>
    obtain ⟨k', e', q'⟩ := q3
    cases e'
    exact ite_ff ⟨H3, I3, q'⟩
  | true =>
    refine ite_tt (test_last (thn (hc pins s3 σ H3 _ I3 q3) fun w' s4 ⟨z', H4, I4, r4, q4⟩ => thn (ho' pins s4 σ H4 y z' u w' _ I4 r2 r4 q4) fun d' s5 ⟨z2, H5, I5, r5, k2, e2, q5⟩ => ?_))
    subst e2
    cases r5
    exact wpAny_truthy_bool ⟨H5, I5, q5⟩

/-! ### truth -/
theorem line63 : (sizeLine : Nat) < 2 ^ 63 := by rw [sizeLine_eq]; decide
/-! ### strs and bytes -/
theorem op_add_str : OpR X (binaryOp .Add) (fun x y H Q => ∃ i j, x = .str i ∧ y = .str j ∧ i.length + j.length ≤ sizeLine ∧ Q (.str (i ++ j)) H) := by
  intro pins s σ H x y v u Q I rx ry h
  obtain ⟨i, j, rfl, rfl, hz, q⟩ := h
  obtain ⟨t, rfl⟩ := rx
  obtain ⟨t', rfl⟩ := ry
  exact add_str (fun t' tk => ⟨.str (i ++ j), H, I.tok _, ⟨_, rfl⟩, q⟩) hz
/-! ### scalar builtins, by CallR -/
theorem vals1 {x : V} {us : List Value} (r : Vals [x] us) : ∃ u, us = [u] ∧ RelV x u := by
  cases r with
  | cons r1 r2 => cases r2; exact ⟨_, rfl, r1⟩
theorem vals2 {x y : V} {us : List Value} (r : Vals [x, y] us) : ∃ u w', us = [u, w'] ∧ RelV x u ∧ RelV y w' := by
  cases r with
  | cons r1 r2 =>
    cases r2 with
    | cons r3 r4 => cases r4; exact ⟨_, _, rfl, r1, r3⟩
theorem call_max2 (hc : X.calm = true) : CallR X (.builtin "max") (fun xs H Q => ∃ i j, xs = [.int i, .int j] ∧ Q (.int (if j > i then j else i)) H) := by
  intro pins s σ H xs us Q I r h
  obtain ⟨i, j, rfl, q⟩ := h
  obtain ⟨u, w', rfl, ⟨t, rfl⟩, ⟨t', rfl⟩⟩ := vals2 r
  refine max_two_ints (I.ok.hd hc) fun h' tk k => ⟨_, H, I.kept k, ?_, q⟩
  by_cases hj : j > i
  · rw [if_pos hj, if_pos hj]; exact ⟨_, rfl⟩
  · rw [if_neg hj, if_neg hj]; exact ⟨_, rfl⟩
theorem call_int1 : CallR X (.type "int") (fun xs H Q => (∃ i, xs = [.int i] ∧ Q (.int i) H) ∨ ∃ k, xs = [.bl k] ∧ Q (.int (if k then 1 else 0)) H) := by
  intro pins s σ H xs us Q I r h
  rcases h with ⟨i, rfl, q⟩ | ⟨k, rfl, q⟩
  · obtain ⟨u, rfl, t, rfl⟩ := vals1 r
    exact call_int_int ⟨.int i, H, I, ⟨_, rfl⟩, q⟩
  · obtain ⟨u, rfl, r1⟩ := vals1 r
    cases r1
    exact call_int_bool ⟨.int (if k then 1 else 0), H, I.tok _, ⟨_, rfl⟩, q⟩
end
end L2

namespace L2
open PySem PySem.Spec PyProof.Rows

/-! ### an instance, its attributes a map -/
structure ObjM (h : Heap) (x dx C : Addr) (mA : Str → Option Value) : Prop where
  obj : h.get? x = some (PySem.W.instObj C dx)
  ns : h.Ns1 dx mA
  ne : dx ≠ x

theorem lookIn_ns {h : Heap} {dx : Addr} {mA : Str → Option Value} (n : h.Ns1 dx mA) : ∃ od, h.get? dx = some od ∧ ∀ name, PySem.W.lookIn name od = some (mA name) := by
  obtain ⟨o, es, ep, ho, hd, hk, _, hm⟩ := n
  refine ⟨o, ho, fun name => ?_⟩
  have e := hm name
  unfold nsFind findBy at e
  rw [← Array.find?_toList] at e
  unfold PySem.W.lookIn
  rw [hd]
  dsimp only
  split
  · rename_i y q
    rw [q] at e
    exact congrArg some e
  · rename_i q
    rw [q] at e
    have a : es.toList.any (·.refKey) = false := by
      rw [List.any_eq_false]
      intro y hy
      obtain ⟨z, t, hkey⟩ := hk y (Array.mem_toList_iff.mp hy)
      simp [DictEntry.refKey, hkey]
    have a' : ¬ es.toList.any (·.refKey) = true := by rw [a]; exact Bool.false_ne_true
    rw [if_neg a']
    exact congrArg some e

theorem ObjM.look {h : Heap} {x dx C : Addr} {mA : Str → Option Value} (I : ObjM h x dx C mA) : ∃ od, PySem.W.InstAt h x (PySem.W.instObj C dx) C (some od) ∧ ∀ name, PySem.W.lookIn name od = some (mA name) :=
  let ⟨od, ho, hl⟩ := lookIn_ns I.ns
  ⟨od, ⟨I.obj, rfl, rfl, ho⟩, hl⟩

section
variable {prog : Program} {w : World} {A : Around} {E : Value → Shared → Prop} {s : Shared} {K : PySem.W.Frag} {x dx C f : Addr} {mA : Str → Option Value} {name : Str} {v : Value}

end

/-! ### the attributes as a list of pairs -/
section
variable {P : Program} {w : World} {H H' : Hp} {h h' : Heap} {a C dx : Addr} {fs fs' : List (Str × V)}
end

/-! ### what of the text a class must have -/
structure Cls (K : PySem.W.Frag) (C : Addr) : Prop where
  pg : PySem.W.plainGet K C Str.empty = true
  hd : PySem.W.hasDictIn K C = true
  po : PySem.W.plainOver K C = true
  sa : PySem.W.findIn K (.ref C) "__setattr__" = some (some (.builtin "object.__setattr__"))
theorem Cls.get {K : PySem.W.Frag} {C : Addr} (c : Cls K C) (f : Str) : PySem.W.plainGet K C f = true := c.pg
/-- a constant of the class -/
structure Con (K : PySem.W.Frag) (C : Addr) (f : Str) (v : V) (u : Value) : Prop where
  at_ : PySem.W.findIn K (.ref C) f = some (some u)
  rel : RelV v u
  get : PySem.W.specialIn K u "__get__" = some none
  cp : PySem.W.copiedNames.contains f = false
/-- a method: a plain def of the class or of one above it -/
structure Meth (K : PySem.W.Frag) (C : Addr) (m : Str) (f : Addr) : Prop where
  at_ : PySem.W.findIn K (.ref C) m = some (some (.ref f))
  fn : PySem.W.isFn K (.ref f) = true
  kp : PySem.W.keepIn K (.ref f) = true

section
variable {X : Cx} {pins : List (Addr × Obj)} {σ : St} {H : Hp} {s : Shared} {a C dx : Addr} {fs : List (Str × V)} {f : Str} {v : V} {A : Around} {E : Value → Shared → Prop}

/-- a new instance, tracked, without attributes -/
theorem Inv.made (I : Inv X pins σ H s) : Inv X pins σ (upd (upd H s.heap.objs.size (.own (s.heap.objs.size + 1))) (s.heap.objs.size + 1) (.ins C s.heap.objs.size []))
    { s with heap := (s.heap.push PySem.W.emptyDict).push (PySem.W.instObj C s.heap.objs.size) } := by
  have e1 : (s.heap.push PySem.W.emptyDict).get? s.heap.objs.size = some PySem.W.emptyDict := Heap.get?_push_size s.heap rfl
  have e2 : ((s.heap.push PySem.W.emptyDict).push (PySem.W.instObj C s.heap.objs.size)).get? (s.heap.objs.size + 1) = some (PySem.W.instObj C s.heap.objs.size) := by
    have := Heap.get?_push_size (s.heap.push PySem.W.emptyDict) (o := PySem.W.instObj C s.heap.objs.size) rfl
    rwa [Heap.size_push] at this
  have e3 : (s.heap.push PySem.W.emptyDict).Ns s.heap.objs.size (fun _ => none) := ⟨PySem.W.emptyDict, #[], _, e1, rfl, (fun e he => absurd he (by simp)), fun _ => rfl⟩
  have I1 := I.laid (a := s.heap.objs.size) (o := .own (s.heap.objs.size + 1)) (h' := s.heap.push PySem.W.emptyDict) (t' := s.toks) (fun b u q => Heap.get?_push_of_some _ q) (Nat.le_refl _) ⟨_, e1⟩
  refine I1.laid (a := s.heap.objs.size + 1) (o := .ins C s.heap.objs.size []) (t' := s.toks) (fun b u q => Heap.get?_push_of_some _ q) (Nat.le_of_eq (Heap.size_push _ _)) ?_
  have ne : s.heap.objs.size ≠ s.heap.objs.size + 1 := Nat.ne_of_lt (Nat.lt_succ_self _)
  refine ⟨by rw [upd_ne ne, upd_same], Nat.zero_le _, ne, e2, fun _ => none, (Heap.Ns1.of_empty e3).at fun o q => Heap.get?_push_of_some _ q, fun _ => True.intro, fun y hy => absurd rfl hy⟩

end

/-! ### readings and rules -/
section
variable {X : Cx} {o e value : Expr} {f : Str} {pos pos' tpos : Pos} {ta tv : TE}
end

/-! ### isinstance -/
section
variable {X : Cx} {pins : List (Addr × Obj)} {σ : St} {H : Hp} {s : Shared} {A : Around} {E : Value → Shared → Prop} {Q : Value → Shared → Prop} {c : Value} {b : Bool}
/-- the type of a value, as the fragment's deciders take it; for an instance its class -/
inductive TyOf (K : PySem.W.Frag) (H : Hp) : V → Value → Prop where
  | non : TyOf K H .non (.type "NoneType")
  | bl (x : Bool) : TyOf K H (.bl x) (.type "bool")
  | int (i : Int) : TyOf K H (.int i) (.type "int")
  | str (x : Str) : TyOf K H (.str x) (.type "str")
  | flt (x : UInt64) : TyOf K H (.flt x) (.type "float")
  | lst {a : Addr} {xs : List V} (e : H a = some (.lst xs)) : TyOf K H (.ref a) (.type "list")
  | frz {a : Addr} {o : Obj} {xs : List V} (e : H a = some (.frz o (.lst xs))) : TyOf K H (.ref a) (.type "list")
  | tup {a : Addr} {xs : List V} (e : H a = some (.tup xs)) : TyOf K H (.ref a) (.type "tuple")
  | dK {a : Addr} {kvs : List (Key × V)} (e : H a = some (.dK kvs)) : TyOf K H (.ref a) (.type "dict")
  | dT {a : Addr} {kvs : List (List Key × V)} (e : H a = some (.dT kvs)) : TyOf K H (.ref a) (.type "dict")
  | ins {a C dx : Addr} {fs : List (Str × V)} (e : H a = some (.ins C dx fs)) (cl : Cls K C) (ha : PySem.W.findIn K (.ref C) "__class__" = some (some (.builtin "object.__class__")))
      (hn : PySem.W.specialIn K (.builtin "object.__class__") "__get__" = some (some (.builtin "getset_descriptor.__get__"))) (htk : PySem.W.takesIn K (.builtin "object.__class__") = some true)
      (hm : PySem.W.mroIn K C (.type "object") = some true) : TyOf K H (.ref a) (.ref C)
end
end L2

namespace L2
open PySem PySem.Spec PyProof.Rows

/-! ### room -/
structure Room (k : Nat) (A : Around) : Prop where
  hd : A.handled = none
  dp : A.depth + 3 * k + 5 < recursionLimit
  un : A.units + 16 * k + 200 < cLine
  gd : A.guards = some []
theorem Room.mono {j k : Nat} {A : Around} (r : Room k A) (h : j ≤ k) : Room j A := ⟨r.hd, by have := r.dp; omega, by have := r.un; omega, r.gd⟩
theorem Room.deeper {k : Nat} {A : Around} (r : Room (k + 1) A) (env : Env) : Room k (A.deeper env) :=
  ⟨r.hd, by have := r.dp; show A.depth + 1 + 3 * k + 5 < _; omega, by have := r.un; show A.units + 3 + 16 * k + 200 < _; omega, r.gd⟩
theorem Room.in1 {k : Nat} {A : Around} (r : Room (k + 1) A) : Room k A.in1 :=
  ⟨r.hd, by have := r.dp; show A.depth + 3 * k + 5 < _; omega, by have := r.un; show A.units + 1 + 16 * k + 200 < _; omega, r.gd⟩
theorem make_depth {A : Around} {C : Addr} {us : List Value} {kw : List (Str × Value)} : (A.under (.builtin "type.__call__" ⟨.ref C :: us, kw⟩)).depth = A.depth + 1 := by
  first | rfl | simp [Around.under, Code.weight, Code.isCreation, Code.isGuard, Code.isCaller, Code.frames, Code.isFrame, guardIds]
theorem make_units {A : Around} {C : Addr} {us : List Value} {kw : List (Str × Value)} : (A.under (.builtin "type.__call__" ⟨.ref C :: us, kw⟩)).units = A.units + 1 := by
  first | rfl | simp [Around.under, Code.cUnits, Code.frames, Code.isFrame]
theorem Room.make {k : Nat} {A : Around} (r : Room (k + 1) A) (C : Addr) (us : List Value) (kw : List (Str × Value)) : Room k (A.under (.builtin "type.__call__" ⟨.ref C :: us, kw⟩)) :=
  ⟨r.hd, by have := r.dp; rw [make_depth]; omega, by have := r.un; rw [make_units]; omega, by have g := r.gd; simp [Around.under, Code.guards, Code.isGuard, guardIds, pushGuards, g]⟩
theorem Room.depth {k : Nat} {A : Around} (r : Room k A) : A.depth < recursionLimit := by have := r.dp; omega
theorem Room.units {k : Nat} {A : Around} (r : Room k A) : A.units + 64 < cLine := by have := r.un; omega
/-! ### argument lists and displays -/
def tNil : TA := fun _ H Q => Q [] H
def tCons (ta : TE) (tr : TA) : TA := fun σ H Q => ta σ H fun x H1 => tr σ H1 fun xs H2 => Q (x :: xs) H2
section
variable {X : Cx} {e : Expr} {es : List Expr} {te : TE} {t : TA} {pos : Pos}
theorem pa_nil : PA X [] tNil := fun _ _ _ _ H Q I h => Calls.spliced_nil ⟨[], H, I, .nil, h⟩
theorem pa_cons (ha : PE X e te) (hr : PA X es t) (hs : starEach (e :: es) X.env = (false, eval e X.env) :: starEach es X.env := by rfl) : PA X (e :: es) (tCons te t) := by
  intro pos pins s σ H Q I h
  rw [hs]
  show wpAny _ _ (spliced ((false, eval e X.env) :: backTo pos (starEach es X.env))) _ _ s
  refine Calls.spliced_cons (thn (ha pins s σ H _ I h) fun u s1 ⟨x, H1, I1, r1, q1⟩ => ?_)
  exact thn (hr pos pins s1 σ H1 _ I1 q1) fun us s2 ⟨xs, H2, I2, r2, q2⟩ => ⟨x :: xs, H2, I2, .cons r1 r2, q2⟩

/-- a tuple, a list of written items -/
def tTup (t : TA) : TE := fun σ H Q => t σ H fun xs H1 => xs.length ≤ sizeLine ∧ ∀ p, H1 p = none → Q (.ref p) (upd H1 p (.tup xs))
def tLst (t : TA) : TE := fun σ H Q => t σ H fun xs H1 => xs.length ≤ sizeLine ∧ ∀ p, H1 p = none → Q (.ref p) (upd H1 p (.lst xs))
theorem pe_tup {x1} (h : PA X es t) : PE X (.Tuple es x1 pos) (tTup t) := by
  intro pins s σ H Q I hq
  refine wpAny_Tuple_spliced (thn (h pos pins s σ H _ I hq) fun us s1 ⟨xs, H1, I1, r, z, q⟩ => ⟨by rw [← r.length]; exact z, ?_⟩)
  have hf : H1 s1.heap.objs.size = none := I1.hok.fresh (Nat.le_refl _)
  refine ⟨.ref s1.heap.objs.size, upd H1 s1.heap.objs.size (.tup xs), I1.laid (t' := s1.toks) (fun b u e => Heap.get?_push_of_some _ e) (Nat.le_refl _) ?_, rfl, q _ hf⟩
  exact ⟨z, us, r, ⟨_, Heap.get?_push_size _ rfl, rfl, _, rfl⟩⟩
theorem pe_lst (h : PA X es t) : PE X (.List es pos) (tLst t) := by
  intro pins s σ H Q I hq
  refine wpAny_List_spliced (thn (h pos pins s σ H _ I hq) fun us s1 ⟨xs, H1, I1, r, z, q⟩ => ⟨by rw [← r.length]; exact z, ?_⟩)
  have hf : H1 s1.heap.objs.size = none := I1.hok.fresh (Nat.le_refl _)
  refine ⟨.ref s1.heap.objs.size, upd H1 s1.heap.objs.size (.lst xs), I1.laid (t' := s1.toks) (fun b u e => Heap.get?_push_of_some _ e) (Nat.le_refl _) ?_, rfl, q _ hf⟩
  exact ⟨z, us, 0, r, Heap.get?_push_size _ rfl⟩
end

/-! ### what a def promises -/
/-- a def's promise: the bound arguments in the parameters' order, the heap, the wanted end, the wanted exception -/
abbrev Sp := List V → Hp → VK → XK → Prop
/-- how an exception lies behind a call (file 08 gives it): the callers' frames, abstract heap and state ahead of the call, the wish, the exception, the state -/
abbrev CXT := List Env → Hp → Shared → XK → Value → Shared → Prop

/-- the state at a call -/
structure Env0 (P : Program) (w : World) (K : PySem.W.Frag) (mg : Str → Option Value) (base : Heap) (A : Around) (outer : List Env) (s : Shared) (H : Hp) : Prop where
  frames : A.frames = some outer
  mod : Mod K mg base
  bs : ∀ b o, base.get? b = some o → s.heap.get? b = some o ∧ H b = none
  bsz : base.objs.size ≤ s.heap.objs.size
  funs : s.heap.FunFrames base outer
  frf : ∀ b ∈ frs outer, H b = none
  hok : HOk P w H s.heap
  bare : AllBare s.gens
/-- a call's end -/
def CE (outer : List Env) (P : Program) (w : World) (H : Hp) (s : Shared) (Q : VK) (u : Value) (s' : Shared) : Prop :=
  ∃ v H', s'.os = s.os ∧ AllBare s'.gens ∧ Un (frs outer) [] H H' s.heap s'.heap ∧ HOk P w H' s'.heap ∧ RelV v u ∧ Q v H'
def CR (CX : CXT) (outer : List Env) (P : Program) (w : World) (H : Hp) (s : Shared) (Q : VK) (E : XK) (r : Result) (s' : Shared) : Prop :=
  match r with
  | .ok (.ret u) => CE outer P w H s Q u s'
  | .ok _ => False
  | .error e => CX outer H s E e s'
structure FnOk (P : Program) (w : World) (K : PySem.W.Frag) (mg : Str → Option Value) (base : Heap) (CX : CXT) (k : Nat) (f : Addr) (fd : FuncData) (ps : List Str) (sp : Sp) : Prop where
  len : ∀ vs H Q E, sp vs H Q E → vs.length = ps.length
  run : ∀ (A : Around) (outer : List Env) (s : Shared) (H : Hp) (args : Args) (us : List Value) (vs : List V) (Q : VK) (E : XK), Room k A → Env0 P w K mg base A outer s H → BindsTo s fd args (ps.zip us) → Vals vs us → sp vs H Q E →
    codeAny (model P w) A (.call (.ref f) args) (CR CX outer P w H s Q E) s
theorem FnOk.mono {P : Program} {w : World} {K : PySem.W.Frag} {mg : Str → Option Value} {base : Heap} {CX : CXT} {j k : Nat} {f : Addr} {fd : FuncData} {ps : List Str} {sp : Sp} (F : FnOk P w K mg base CX j f fd ps sp) (h : j ≤ k) :
    FnOk P w K mg base CX k f fd ps sp := ⟨F.len, fun A outer s H args us vs Q E hr => F.run A outer s H args us vs Q E (hr.mono h)⟩
/-- a weaker promise -/
theorem FnOk.imp {P : Program} {w : World} {K : PySem.W.Frag} {mg : Str → Option Value} {base : Heap} {CX : CXT} {k : Nat} {f : Addr} {fd : FuncData} {ps : List Str} {sp sp' : Sp} (F : FnOk P w K mg base CX k f fd ps sp)
    (h : ∀ vs H Q E, sp' vs H Q E → sp vs H Q E) : FnOk P w K mg base CX k f fd ps sp' :=
  ⟨fun vs H Q E q => F.len vs H Q E (h _ _ _ _ q), fun A outer s H args us vs Q E hr he hb hv hs => F.run A outer s H args us vs Q E hr he hb hv (h _ _ _ _ hs)⟩

theorem Env0.make {P : Program} {w : World} {K : PySem.W.Frag} {mg : Str → Option Value} {base : Heap} {A : Around} {outer : List Env} {s : Shared} {H : Hp} (e : Env0 P w K mg base A outer s H) (C : Addr) (us : List Value) (kw : List (Str × Value)) :
    Env0 P w K mg base (A.under (.builtin "type.__call__" ⟨.ref C :: us, kw⟩)) outer s H := ⟨by first | exact e.frames | (simpa [Around.under, Code.envs, Code.isFrame, pushEnvs] using e.frames), e.mod, e.bs, e.bsz, e.funs, e.frf, e.hok, e.bare⟩
theorem Env0.in1 {P : Program} {w : World} {K : PySem.W.Frag} {mg : Str → Option Value} {base : Heap} {A : Around} {outer : List Env} {s : Shared} {H : Hp} (e : Env0 P w K mg base A outer s H) :
    Env0 P w K mg base A.in1 outer s H := ⟨e.frames, e.mod, e.bs, e.bsz, e.funs, e.frf, e.hok, e.bare⟩

section
variable {X : Cx} {pins : List (Addr × Obj)} {σ : St} {H : Hp} {s s' : Shared}
/-- from a body: what a callee wants -/
theorem Inv.env0 (I : Inv X pins σ H s) : Env0 X.prog X.w X.K X.mg X.base X.A X.stack s H :=
  ⟨I.ok.frames, I.ok.mod, I.bs, Nat.le_trans I.ok.bsz I.sz, I.stack, I.stkFree, I.hok, I.bare⟩
/-- behind a call -/
theorem Inv.after {Q : VK} {u : Value} (I : Inv X pins σ H s) (h : CE X.stack X.prog X.w H s Q u s') : EP X pins σ Q u s' := by
  obtain ⟨v, H', os, bare, un, hok, r, q⟩ := h
  obtain ⟨hh, g, d, t, os'⟩ := s'
  obtain rfl : os' = s.os := os
  exact ⟨v, H', I.call (h' := hh) (g' := g) (d' := d) (t' := t) (ch := []) un hok bare (fun b z => absurd z (by simp)), r, q⟩
end

/-! ### calls -/
/-- f(..): the written arguments, then the defaults dvs; E: what is wanted of an exception -/
def tCall (sp : Sp) (dvs : List V) (E : XK) (t : TA) : TE := fun σ H Q => t σ H fun vs H1 => sp (vs ++ dvs) H1 Q E
/-- how the parameters are bound: us the positional arguments, kw the keywords' values by name, ds the defaults that fill up -/
def Binds (K : PySem.W.Frag) (fd : FuncData) (ps : List Str) (ds : List Value) : Prop :=
  ∀ (s : Shared) (us : List Value), K.In s.heap → (us ++ ds).length = ps.length → BindsTo s fd ⟨us, []⟩ (ps.zip (us ++ ds))
/-- every parameter is given -/
theorem Binds.all {K : PySem.W.Frag} {fd : FuncData} {ps : List Str} (h : ∀ us : List Value, us.length = ps.length → bindArgs fd ⟨us, []⟩ = pure (ps.zip us)) : Binds K fd ps [] := fun s us _ hl => by
  rw [List.append_nil] at hl ⊢
  exact .of_eq (h us hl)

/-- an exception of a callee reaches what this body wants of exceptions -/
def Passes (CX : CXT) (X : Cx) (E : XK) : Prop := ∀ (pins : List (Addr × Obj)) (σ : St) (H : Hp) (s : Shared) (e : Value) (s' : Shared), Inv X pins σ H s → CX X.stack H s E e s' → X.xe e s'

section
variable {X : Cx} {CX : CXT} {k : Nat} {f C : Addr} {fd : FuncData} {ps : List Str} {sp : Sp} {dvs : List V} {ds : List Value} {E : XK} {x m : Str} {p pos apos : Pos} {e o : Expr} {es : List Expr} {ta : TE} {t : TA}

/-- the callee runs -/
theorem run_fn {pins : List (Addr × Obj)} {σ : St} {H : Hp} {s : Shared} {Q : VK} {us : List Value} {vs : List V} (F : FnOk X.prog X.w X.K X.mg X.base CX k f fd ps sp) (hr : Room k X.A) (hb : Binds X.K fd ps ds) (hd : Vals dvs ds) (hx : Passes CX X E)
    (I : Inv X pins σ H s) (r : Vals vs us) (h : sp (vs ++ dvs) H Q E) : wpAny (model X.prog X.w) X.A (call (.ref f) us) (EP X pins σ Q) X.xe s := by
  have r2 : Vals (vs ++ dvs) (us ++ ds) := r.append hd
  have hl : (us ++ ds).length = ps.length := by rw [← r2.length]; exact F.len _ _ _ _ h
  refine wpAny_call (codeAny_mono (F.run X.A X.stack s H ⟨us, []⟩ (us ++ ds) (vs ++ dvs) Q E hr I.env0 (hb s us I.kIn hl) r2 h) fun r s' hq => ?_)
  cases r with
  | error e => exact hx pins σ H s e s' I hq
  | ok fl =>
    cases fl with
    | ret u => exact I.after hq
    | next => exact False.elim hq
    | brk => exact False.elim hq
    | cont => exact False.elim hq

theorem pe_call (F : FnOk X.prog X.w X.K X.mg X.base CX k f fd ps sp) (hr : Room k X.A) (hg : Gl X x) (hm : X.mg x = some (.ref f)) (hk : PySem.W.keepIn X.K (.ref f) = true) (hb : Binds X.K fd ps ds) (hd : Vals dvs ds) (hx : Passes CX X E)
    (ha : PA X (e :: es) t) (hdb : (x == ("__debug__" : Str)) = false := by decide) (he : starEach (e :: es) X.env = (false, eval e X.env) :: starEach es X.env := by rfl) (hpl : (backTo pos (starEach es X.env)).any (·.1) = false := by rfl) :
    PE X (.Call (.Name x p) (e :: es) [] pos) (tCall sp dvs E t) := by
  intro pins s σ H Q I h
  refine wpAny_Call_Name_kw (ld_glob I hg hm ?_ hdb)
  refine PySem.W.callWith_K (h₀ := X.base) I.ok.mod.kin hk (thn (ha pos pins s σ H _ I h) fun us s1 ⟨vs, H1, I1, r, q⟩ => ⟨I1.kIn, ?_⟩) he hpl
  exact run_fn F hr hb hd hx I1 r q
/-- what a class must have to be made -/
structure Mk (K : PySem.W.Frag) (C f : Addr) : Prop where
  makes : PySem.W.makesIn K C = true
  init : PySem.W.findIn K (.ref C) "__init__" = some (some (.ref f))
  fn : PySem.W.isFn K (.ref f) = true
  kp : PySem.W.keepIn K (.ref C) = true

end

/-! ### keywords -/
section
variable {X : Cx} {CX : CXT} {k : Nat} {f C : Addr} {fd : FuncData} {ps ks : List Str} {sp : Sp} {E : XK} {x m : Str} {p pos apos kpos : Pos} {e o : Expr} {es : List Expr} {kws : List Keyword} {te ta : TE} {t tk : TA} {nm : Option Str}
/-- how a call with keywords binds: g puts the positional values us and the keywords' values ws (names ks) in the parameters' order, defaults among them -/
structure KBinds (K : PySem.W.Frag) (fd : FuncData) (ps ks : List Str) (g : List Value → List Value → List Value) (gV : List V → List V → List V) : Prop where
  to : ∀ (s : Shared) (us ws : List Value), K.In s.heap → (g us ws).length = ps.length → BindsTo s fd ⟨us, ks.zip ws⟩ (ps.zip (g us ws))
  rel : ∀ {vs : List V} {us : List Value} {zs : List V} {ws : List Value}, Vals vs us → Vals zs ws → Vals (gV vs zs) (g us ws)
variable {g : List Value → List Value → List Value} {gV : List V → List V → List V}
end

/-! ### a def's body keeps its promise -/
/-- names: the parameters first -/
structure FnScope (N P : List Str) (sc : Scope) : Prop where
  kind : sc.kind = .function
  co : sc.isCoroutine = false
  gen : sc.isGenerator = false
  nd : N.Nodup
  pre : N.take P.length = P
  par : ∀ x ∈ P, sc.names.lookup x = some .local ∨ sc.names.lookup x = some .cell
  nofree : ∀ y ∈ sc.names, y.2 ≠ .free

theorem bindL_out {kindOf : Str → Option NameKind} {x : Str} : ∀ {binds : List (Str × Value)} {m : Str → Option Value}, (∀ v, (x, v) ∉ binds) → bindL kindOf binds m x = m x
  | [], _, _ => rfl
  | (n, v) :: r, m, h => by
    unfold bindL
    rw [bindL_out fun w hw => h w (List.mem_cons_of_mem _ hw)]
    split
    · have : x ≠ n := by rintro rfl; exact h v List.mem_cons_self
      simp [this]
    · rfl
theorem bindC_out {kindOf : Str → Option NameKind} {x : Str} : ∀ {binds : List (Str × Value)} {m : Str → Option Value}, (∀ v, (x, v) ∉ binds) → bindC kindOf binds m x = m x
  | [], _, _ => rfl
  | (n, v) :: r, m, h => by
    unfold bindC
    rw [bindC_out fun w hw => h w (List.mem_cons_of_mem _ hw)]
    split
    · rfl
    · have : x ≠ n := by rintro rfl; exact h v List.mem_cons_self
      simp [this]
theorem bindL_get {kindOf : Str → Option NameKind} {x : Str} {v : Value} : ∀ {P : List Str} {vs : List Value} {i : Nat} {m : Str → Option Value}, P.Nodup → P[i]? = some x → vs[i]? = some v → kindOf x = some .local →
    bindL kindOf (P.zip vs) m x = some v
  | [], _, _, _, _, h, _, _ => by simp at h
  | _ :: _, [], _, _, _, _, h, _ => by simp at h
  | p :: P, w :: vs, 0, m, nd, h1, h2, hk => by
    simp at h1 h2; subst h1; subst h2
    show bindL kindOf ((p, w) :: P.zip vs) m p = _
    unfold bindL
    rw [bindL_out fun v hv => (List.nodup_cons.mp nd).1 (List.of_mem_zip hv).1, if_pos hk]
    simp
  | p :: P, w :: vs, i + 1, m, nd, h1, h2, hk => by
    show bindL kindOf ((p, w) :: P.zip vs) m x = _
    unfold bindL
    exact bindL_get (i := i) (List.nodup_cons.mp nd).2 (by simpa using h1) (by simpa using h2) hk
theorem bindC_get {kindOf : Str → Option NameKind} {x : Str} {v : Value} : ∀ {P : List Str} {vs : List Value} {i : Nat} {m : Str → Option Value}, P.Nodup → P[i]? = some x → vs[i]? = some v → kindOf x ≠ some .local →
    bindC kindOf (P.zip vs) m x = some v
  | [], _, _, _, _, h, _, _ => by simp at h
  | _ :: _, [], _, _, _, _, h, _ => by simp at h
  | p :: P, w :: vs, 0, m, nd, h1, h2, hk => by
    simp at h1 h2; subst h1; subst h2
    show bindC kindOf ((p, w) :: P.zip vs) m p = _
    unfold bindC
    rw [bindC_out fun v hv => (List.nodup_cons.mp nd).1 (List.of_mem_zip hv).1, if_neg hk]
    simp
  | p :: P, w :: vs, i + 1, m, nd, h1, h2, hk => by
    show bindC kindOf ((p, w) :: P.zip vs) m x = _
    unfold bindC
    exact bindC_get (i := i) (List.nodup_cons.mp nd).2 (by simpa using h1) (by simpa using h2) hk

/-- the names' values at the entry -/
def start (N : List Str) (vs : List V) : St := vs.map some ++ List.replicate (N.length - vs.length) none

/-- the context of a def's body, at its entry; an exception leaves the frame, then lies as CX says -/
def cxOf (CX : CXT) (P : Program) (w : World) (K : PySem.W.Frag) (mg : Str → Option Value) (base : Heap) (N : List Str) (qual : Str) (scope : Scope) (f : Addr) (cd : Value) (A : Around) (outer : List Env) (s : Shared) (H : Hp) (E : XK) : Cx where
  prog := P
  w := w
  K := K
  mg := mg
  base := base
  A := A.deeper (envOfC qual scope s.heap.objs.size f cd)
  N := N
  s₀ := s
  H₀ := H
  env := envOfC qual scope s.heap.objs.size f cd
  outer := outer
  stack := envOfC qual scope s.heap.objs.size f cd :: outer
  ex := []
  calm := true
  fn := fun _ => true
  pn := []
  xe := fun e s' => wpAny (model P w) (A.deeper (envOfC qual scope s.heap.objs.size f cd)) (leaving (envOfC qual scope s.heap.objs.size f cd) e) (fun _ s'' => CX outer H s E e s'') (fun e' s'' => CX outer H s E e' s'') s'

theorem cell_has {sc : Scope} {n : Nat} {x : Str} (h : sc.names.lookup x = some .cell) : ∃ c, (cellsFrom n sc.names []).lookup x = some c := by
  have q := PySem.W.cellsFrom_some sc.names n [] (.inl h)
  exact Option.isSome_iff_exists.mp q

theorem inv_start {CX : CXT} {P : Program} {w : World} {K : PySem.W.Frag} {mg : Str → Option Value} {base : Heap} {N ps : List Str} {qual : Str} {scope : Scope} {f : Addr} {cd : Value} {A : Around} {outer : List Env} {s s1 : Shared} {H : Hp} {E : XK} {us : List Value} {vs : List V}
    (S : FnScope N ps scope) (hd : A.handled = none) (e0 : Env0 P w K mg base A outer s H) (hl : vs.length = ps.length) (r : Vals vs us)
    (x : InCallC s s.heap.objs.size (bindL (envOfC qual scope s.heap.objs.size f cd).kindOf (ps.zip us) fun _ => none) (cellsFrom (s.heap.objs.size + 1) scope.names []) (bindC (envOfC qual scope s.heap.objs.size f cd).kindOf (ps.zip us) fun _ => none) s1) :
    Inv (cxOf CX P w K mg base N qual scope f cd A outer s H E) [] (start N vs) H s1 := by
  have hpl : ps.length ≤ N.length := by have := congrArg List.length S.pre; rw [List.length_take] at this; omega
  obtain ⟨h1, tk, rfl, hk⟩ := x.done
  have noA : ∀ b : Addr, b ∉ (cxOf CX P w K mg base N qual scope f cd A outer s H E).ex := fun b z => absurd (show b ∈ ([] : List Addr) from z) (by simp)
  refine ⟨⟨e0.mod, S.kind, rfl, rfl, Nat.le_refl _, fun y z c h1 h2 => ?_, fun y hy => ?_, fun y c _ h => ?_, fun _ => hd, Around.frames_deeper e0.frames, .inr ⟨rfl, rfl⟩, fun b z => absurd z (noA b), e0.bs, e0.bsz, fun b _ _ => noA b, fun b z => absurd z (noA b), e0.funs, e0.frf⟩,
    rfl, e0.bare, Un.kept hk, ⟨_, x.toInCall.ns, fun i y v h1 h2 h3 => ?_⟩, fun y c h => ⟨_, x.cell y c h⟩, e0.hok.fresh (Nat.le_refl _), fun y c h => ?_, fun p hp => absurd (show p ∈ ([] : List (Addr × Obj)) from hp) (by simp), e0.hok.kept hk, ?_⟩
  · exact name_of_addr x.apart (PySem.mem_of_lookup h1) (PySem.mem_of_lookup h2)
  · have hy : scope.names.lookup y = some .cell ∨ scope.names.lookup y = some .free := hy
    rcases hy with hy | hy
    · exact cell_has hy
    · exact absurd rfl (S.nofree _ (PySem.mem_of_lookup hy))
  · exact Nat.le_of_lt (x.above y c (PySem.mem_of_lookup h))
  · have hi : i < vs.length := by
      unfold start at h2
      by_cases hi : i < vs.length
      · exact hi
      · rw [List.getElem?_append_right (by simpa using hi)] at h2
        rw [List.getElem?_replicate] at h2
        split at h2 <;> cases h2
    have ha : vs[i]? = some v := by
      unfold start at h2
      rw [List.getElem?_append_left (by simpa using hi), List.getElem?_map] at h2
      cases e : vs[i]? with
      | none => rw [e] at h2; cases h2
      | some a => rw [e] at h2; cases h2; rfl
    obtain ⟨u, hu, rv⟩ := r.get ha
    have hp : ps[i]? = some y := by
      rw [← S.pre, List.getElem?_take_of_lt (by omega)]; exact h1
    have ndP : ps.Nodup := by rw [← S.pre]; exact S.nd.sublist (List.take_sublist _ _)
    refine ⟨u, rv, ?_⟩
    rcases S.par y (List.mem_of_getElem? hp) with k | k
    · exact .inl ⟨k, bindL_get ndP hp hu k⟩
    · obtain ⟨c, e⟩ := cell_has (n := s.heap.objs.size + 1) k
      refine .inr ⟨.inl k, c, e, ?_⟩
      have q := x.cell y c e
      rw [bindC_get ndP hp hu (by show scope.names.lookup y ≠ _; rw [k]; decide)] at q
      exact q
  · exact e0.hok.fresh (Nat.le_of_lt (x.above y c (PySem.mem_of_lookup h)))
  · unfold start
    show _ = N.length
    rw [List.length_append, List.length_map, List.length_replicate]
    omega

/-- THE RULE: a def (or a method) of the text, by its body. The body's reading t is chosen for each entry; it is run at the parameters' values -/
theorem fn_of {CX : CXT} {P : Program} {w : World} {K : PySem.W.Frag} {mg : Str → Option Value} {base : Heap} {k : Nat} {f : Addr} {name qual : Str} {params : Arguments} {body : List Stmt} {scope : Scope} {dV kV doc pm cdv ct oc : Value} {an od : Option Addr}
    {osl : Array (Option Value)} {N ps : List Str} {sp : Sp} (lk : K.lookup f = some ⟨oc, od, .func (PySem.W.fnOf name qual params body scope dV kV doc pm an cdv ct), osl⟩) (hcd : PySem.W.codeIn K cdv qual = true) (S : FnScope N ps scope)
    (len : ∀ vs H Q E, sp vs H Q E → vs.length = ps.length)
    (hbody : ∀ (A : Around) (outer : List Env) (s : Shared) (H : Hp) (vs : List V) (Q : VK) (E : XK), Room k (A.deeper (envOfC qual scope s.heap.objs.size f cdv)) → sp vs H Q E →
      ∃ t, PSs (cxOf CX P w K mg base N qual scope f cdv A outer s H E) body t ∧ t { nx := fun _ H' => Q .non H', rt := Q } (start N vs) H) :
    FnOk P w K mg base CX (k + 1) f (PySem.W.fnOf name qual params body scope dV kV doc pm an cdv ct) ps sp := by
  refine ⟨len, fun A outer s H args us vs Q E hr e0 hb r hsp => ?_⟩
  have hl := len _ _ _ _ hsp
  have KX : K.In s.heap := e0.mod.kin.keeps fun b o e => (e0.bs b o e).1
  have lim : s.heap.NoLimit := e0.mod.nolimit.keeps fun b o e => (e0.bs b o e).1
  have hkind : ∀ y ∈ ps.zip us, scope.names.lookup y.1 = some .local ∨ (scope.names.lookup y.1 = some .cell ∧ ((cellsFrom (s.heap.objs.size + 1) scope.names []).lookup y.1).isSome = true) := fun ⟨n, v⟩ hy => by
    rcases S.par n (List.of_mem_zip hy).1 with q | q
    · exact .inl q
    · exact .inr ⟨q, PySem.W.cellsFrom_some _ _ _ (.inl q)⟩
  refine codeAny_call_function hr.depth (KX _ _ lk) rfl S.co S.gen rfl (PySem.W.codeRec_of KX hcd) (hb _ _ _ _ ?_)
  refine wpAny_newFunctionEnv_cells S.kind hkind fun env he s1 x => ?_
  subst he
  refine ⟨lim.keeps x.toInCall.keep, codeAny_func ?_⟩
  obtain ⟨t, ht, hq⟩ := hbody A outer s H vs Q E (hr.deeper _) hsp
  have I : Inv (cxOf CX P w K mg base N qual scope f cdv A outer s H E) [] (start N vs) H s1 := inv_start S hr.hd e0 hl r x
  refine wpAny_mono (ht [] s1 (start N vs) H _ I hq) (fun fl s' hs => ?_) fun e s' hs => hs
  have fin : ∀ {σ' : St} {H' : Hp} {v : V} {u : Value}, Inv (cxOf CX P w K mg base N qual scope f cdv A outer s H E) [] σ' H' s' → RelV v u → Q v H' → CE outer P w H s Q u s' :=
    fun {σ' H' v u} J rv q => ⟨v, H', J.os, J.bare, J.base, J.hok, rv, q⟩
  cases fl with
  | ret u =>
    obtain ⟨v, σ', H', J, rv, q⟩ := hs
    exact fin J rv q
  | next =>
    obtain ⟨σ', H', J, q⟩ := hs
    exact fin (v := V.non) (u := Value.none) J rfl q
  | brk =>
    obtain ⟨_, _, _, q⟩ := hs
    exact False.elim q
  | cont =>
    obtain ⟨_, _, _, q⟩ := hs
    exact False.elim q
end L2

namespace L2
open PySem PySem.Spec PyProof.Rows
section
variable {X : Cx} {x : Str} {p pos : Pos} {e : Expr} {es : List Expr} {t : TA} {id T : String} {r : List V → Hp → VK → Prop}

def tCB (r : List V → Hp → VK → Prop) (t : TA) : TE := fun σ H Q => t σ H fun vs H1 => r vs H1 Q
/-- f(e, ..), f a built-in function -/
theorem pe_callB (hc : CallR X (.builtin id) r) (hg : Gl X x) (hm : X.mg x = none) (hv : bootBuiltins x = some (.builtin id)) (ha : PA X (e :: es) t) (hn : x ≠ "__name__" := by decide) (hdb : (x == ("__debug__" : Str)) = false := by decide)
    (he : starEach (e :: es) X.env = (false, eval e X.env) :: starEach es X.env := by rfl) (hpl : (backTo pos (starEach es X.env)).any (·.1) = false := by rfl) : PE X (.Call (.Name x p) (e :: es) [] pos) (tCB r t) := by
  intro pins s σ H Q I h
  refine wpAny_Call_Name_kw (ld_blt I hg hm hv ?_ hn hdb)
  exact PyProof.Rows.callWith_builtin1 (thn (ha pos pins s σ H _ I h) fun us s1 ⟨vs, H1, I1, r1, q1⟩ => hc pins s1 σ H1 vs us Q I1 r1 q1) he hpl
/-- T(e, ..), T a built-in type -/
theorem pe_callTy (hc : CallR X (.type T) r) (hg : Gl X x) (hm : X.mg x = none) (hv : bootBuiltins x = some (.type T)) (ha : PA X (e :: es) t) (hn : x ≠ "__name__" := by decide) (hdb : (x == ("__debug__" : Str)) = false := by decide)
    (he : starEach (e :: es) X.env = (false, eval e X.env) :: starEach es X.env := by rfl) (hpl : (backTo pos (starEach es X.env)).any (·.1) = false := by rfl) : PE X (.Call (.Name x p) (e :: es) [] pos) (tCB r t) := by
  intro pins s σ H Q I h
  refine wpAny_Call_Name_kw (ld_blt I hg hm hv ?_ hn hdb)
  exact PyProof.Rows.callWith_type1 (thn (ha pos pins s σ H _ I h) fun us s1 ⟨vs, H1, I1, r1, q1⟩ => hc pins s1 σ H1 vs us Q I1 r1 q1) he hpl
end
end L2

namespace HT
open PySem PyProof.Rows

section
open PySem.SeqAt
open PySem.AutoSeq1 (wpAny_loadPart')
open PySem.MeetsSeq PySem.MeetsSeq2 PySem.MeetsSeq3

end

section
variable {prog : Program} {w : World} {A : Around} {E : Value → Shared → Prop} {s : Shared}

/-! ### t[a:b], not the whole -/
/-- a slice's bound as a place among n (d where it is left out) -/
def sIx (n d : Nat) : Option Int → Nat
  | none => d
  | some v => if v < 0 then (v + (n : Int)).toNat else min v.toNat n
theorem sIx_le (n d : Nat) (hd : d ≤ n) (o : Option Int) : sIx n d o ≤ n := by
  cases o with
  | none => exact hd
  | some v =>
    show (if v < 0 then (v + (n : Int)).toNat else min v.toNat n) ≤ n
    by_cases hv : v < 0
    · rw [if_pos hv]; omega
    · rw [if_neg hv]; exact Nat.min_le_right _ _
end
end HT

namespace L2
open PySem PySem.Spec PyProof.Rows

/-! ### the parts of a slice -/
abbrev TO := St → Hp → (Option Int → Hp → Prop) → Prop
/-- a slice's part (left out, or an int) -/
def PO (X : Cx) (e : Option Expr) (t : TO) : Prop :=
  ∀ (pins : List (Addr × Obj)) (s : Shared) (σ : St) (H : Hp) (Q : Option Int → Hp → Prop), Inv X pins σ H s → t σ H Q →
    wpAny (model X.prog X.w) X.A (evalPart e X.env) (fun u s' => ∃ o H', Inv X pins σ H' s' ∧ IsPart u o ∧ Q o H') X.xe s
def tNoPart : TO := fun _ H Q => Q none H
def tPart (t : TE) : TO := fun σ H Q => t σ H fun x H1 => ∃ i, x = .int i ∧ Q (some i) H1

section
variable {X : Cx} {e : Expr} {te : TE} {lo hi : Option Expr} {tl th : TO} {pos p2 : Pos}

theorem po_none : PO X none tNoPart := by
  intro pins s σ H Q I h
  rw [evalPart_none]
  exact wpAny_pure ⟨none, H, I, .none, h⟩
theorem po_some (h : PE X e te) : PO X (some e) (tPart te) := by
  intro pins s σ H Q I hw
  rw [evalPart_some]
  refine thn (h pins s σ H _ I hw) fun u s1 ⟨x, H1, I1, r1, q1⟩ => ?_
  obtain ⟨i, rfl, q⟩ := q1
  obtain ⟨t, rfl⟩ := r1
  exact ⟨some i, H1, I1, .int i t, q⟩

/-- what a slice of a value is, by values: the slice object stands at sl -/
def SlR (X : Cx) (r : V → Option Int → Option Int → Hp → VK → Prop) : Prop :=
  ∀ (pins : List (Addr × Obj)) (s : Shared) (σ : St) (H : Hp) (x : V) (v vl vu : Value) (lo hi : Option Int) (sl : Addr) (Q : VK), Inv X pins σ H s → RelV x v → s.heap.IsSliceOf sl vl vu .none → IsPart vl lo → IsPart vu hi → r x lo hi H Q →
    ∃ T id, typeLookup (.type T) "__getitem__" = pure (some (.builtin id)) ∧ s.TypeIs v T ∧ wpAny (model X.prog X.w) X.A (getItem v (.ref sl)) (EP X pins σ Q) X.xe s
theorem SlR.or {r r' : V → Option Int → Option Int → Hp → VK → Prop} (h : SlR X r) (h' : SlR X r') : SlR X (fun x lo hi H Q => r x lo hi H Q ∨ r' x lo hi H Q) := by
  intro pins s σ H x v vl vu lo hi sl Q I rx hs pl pu q
  rcases q with q | q
  · exact h pins s σ H x v vl vu lo hi sl Q I rx hs pl pu q
  · exact h' pins s σ H x v vl vu lo hi sl Q I rx hs pl pu q
def tSl (r : V → Option Int → Option Int → Hp → VK → Prop) (te : TE) (tl th : TO) : TE := fun σ H Q => te σ H fun x H1 => tl σ H1 fun l H2 => th σ H2 fun u H3 => r x l u H3 Q
/-- a[lo:hi], any a -/
theorem pe_slice {r : V → Option Int → Option Int → Hp → VK → Prop} (hr : SlR X r) (he : PE X e te) (hl : PO X lo tl) (hu : PO X hi th) : PE X (.Subscript e (.Slice lo hi none p2) pos) (tSl r te tl th) := by
  intro pins s σ H Q I h
  refine Subscript_ (thn (he pins s σ H _ I h) fun v s1 ⟨x, H1, I1, r1, q1⟩ => ?_)
  refine wpAny_Slice (thn (hl pins s1 σ H1 _ I1 q1) fun vl s2 ⟨l, H2, I2, pl, q2⟩ => thn (hu pins s2 σ H2 _ I2 q2) fun vu s3 ⟨u, H3, I3, pu, q3⟩ => ?_)
  rw [evalPart_none]
  refine wpAny_pure ?_
  have I4 : Inv X pins σ H3 { s3 with heap := s3.heap.push { cls := .type "slice", data := .fields #[vl, vu, .none] } } := I3.kept (t' := s3.toks) fun b ob q => Heap.get?_push_of_some _ q
  obtain ⟨T, id, hT, ht, hg⟩ := hr pins { s3 with heap := s3.heap.push { cls := .type "slice", data := .fields #[vl, vu, .none] } } σ H3 x v vl vu l u s3.heap.objs.size Q I4 r1 (Heap.IsSliceOf.new ..) pl pu q3
  show wpAny (model X.prog X.w) X.A (subscriptTail e (.Slice lo hi none p2) v (.ref s3.heap.objs.size)) (EP X pins σ Q) X.xe { s3 with heap := s3.heap.push { cls := .type "slice", data := .fields #[vl, vu, .none] } }
  exact tail_any (ops := [.ref s3.heap.objs.size, v]) ht hT hg (by with_unfolding_all rfl)

/-- the items of xs[lo:hi] -/
def cutV (xs : List V) (lo hi : Option Int) : List V := (xs.drop (HT.sIx xs.length 0 lo)).take (HT.sIx xs.length xs.length hi - HT.sIx xs.length 0 lo)
theorem cutV_length (xs : List V) (lo hi : Option Int) : (cutV xs lo hi).length ≤ xs.length := by
  unfold cutV
  rw [List.length_take, List.length_drop]
  omega
/-! ### t < u, t + u -/
end
end L2

namespace L2
open PySem PySem.Spec PyProof.Rows

/-! ### places -/
/-- the place that an index of any sign means -/
def ixN (n : Nat) (i : Int) : Option Nat := if 0 ≤ i then (if i < n then some i.toNat else none) else if -(n : Int) ≤ i then some (i + n).toNat else none
def atI {α : Type} (xs : List α) (i : Int) : Option α := (ixN xs.length i).bind fun j => xs[j]?
theorem ixN_seq {n : Nat} {i : Int} {j : Nat} (h : ixN n i = some j) : seqIndex? i n = some j ∧ j < n ∧ -(n : Int) ≤ i ∧ i < n := by
  unfold ixN at h
  by_cases h0 : 0 ≤ i
  · rw [if_pos h0] at h
    by_cases h1 : i < n
    · rw [if_pos h1] at h
      have e : i.toNat = j := Option.some.inj h
      exact ⟨by rw [seqIndex_of h0 h1, e], by omega, by omega, h1⟩
    · rw [if_neg h1] at h; cases h
  · rw [if_neg h0] at h
    by_cases h1 : -(n : Int) ≤ i
    · rw [if_pos h1] at h
      have e : (i + n).toNat = j := Option.some.inj h
      exact ⟨by rw [seqIndex_neg (by omega) h1, e], by omega, h1, by omega⟩
    · rw [if_neg h1] at h; cases h
theorem atI_get {α : Type} {xs : List α} {i : Int} {v : α} (h : atI xs i = some v) : ∃ j, seqIndex? i xs.length = some j ∧ xs[j]? = some v ∧ j < xs.length ∧ -(xs.length : Int) ≤ i ∧ i < xs.length := by
  unfold atI at h
  cases e : ixN xs.length i with
  | none => rw [e] at h; cases h
  | some j =>
    rw [e] at h
    obtain ⟨h1, h2, h3, h4⟩ := ixN_seq e
    exact ⟨j, h1, h, h2, h3, h4⟩
theorem atI_nat {α : Type} {xs : List α} {j : Nat} {v : α} (h : xs[j]? = some v) : atI xs (j : Int) = some v := by
  have hj : j < xs.length := (List.getElem?_eq_some_iff.mp h).1
  have e : ixN xs.length (j : Int) = some j := by
    unfold ixN
    rw [if_pos (by omega), if_pos (by omega)]; simp
  unfold atI; rw [e]; exact h
/-! ### what may be subscripted -/
/-- what stands as an index of a plain subscript -/
def PlainIx (b : Expr) : Prop := ∀ o i, subscripted b false o i = operate [o, i] (getItem o i)
/-- a subscript by values -/
def IxR (X : Cx) (r : R2) : Prop :=
  ∀ (value slice : Expr) (pins : List (Addr × Obj)) (s : Shared) (σ : St) (H : Hp) (x y : V) (v u : Value) (Q : VK), Inv X pins σ H s → RelV x v → RelV y u → r x y H Q →
    subscripted slice false v u = operate [v, u] (getItem v u) → wpAny (model X.prog X.w) X.A (subscriptTail value slice v u) (EP X pins σ Q) X.xe s
/-- a call of a builtin's method by values: the receiver, the arguments -/
def MtR (X : Cx) (id : String) (r : V → List V → Hp → VK → Prop) : Prop :=
  ∀ (pins : List (Addr × Obj)) (s : Shared) (σ : St) (H : Hp) (x : V) (xs : List V) (v : Value) (us : List Value) (Q : VK), Inv X pins σ H s → RelV x v → Vals xs us → r x xs H Q →
    wpAny (model X.prog X.w) X.A (call (.builtin id) (v :: us)) (EP X pins σ Q) X.xe s
section
variable {X : Cx} {a b : Expr} {ta tb : TE} {pos : Pos}
theorem IxR.or {r r' : R2} (h : IxR X r) (h' : IxR X r') : IxR X (fun x y H Q => r x y H Q ∨ r' x y H Q) := by
  intro value slice pins s σ H x y v u Q I rx ry q hs
  rcases q with q | q
  · exact h value slice pins s σ H x y v u Q I rx ry q hs
  · exact h' value slice pins s σ H x y v u Q I rx ry q hs
theorem MtR.or {id : String} {r r' : V → List V → Hp → VK → Prop} (h : MtR X id r) (h' : MtR X id r') : MtR X id (fun x xs H Q => r x xs H Q ∨ r' x xs H Q) := by
  intro pins s σ H x xs v us Q I rx rs q
  rcases q with q | q
  · exact h pins s σ H x xs v us Q I rx rs q
  · exact h' pins s σ H x xs v us Q I rx rs q
/-- a[b] -/
theorem pe_ix {r : R2} (hr : IxR X r) (ha : PE X a ta) (hb : PE X b tb) (hs : PlainIx b) : PE X (.Subscript a b pos) (tOp r ta tb) := by
  intro pins s σ H Q I h
  exact Subscript_ (binT ha hb I h fun v u s2 x y H2 I2 rx ry q => hr a b pins s2 σ H2 x y v u Q I2 rx ry q (hs _ _))

def rIxL (K : PySem.W.Frag) : R2 := fun x y H Q => ∃ p xs i v, x = .ref p ∧ y = .int i ∧ SqL K H p xs ∧ atI xs i = some v ∧ Q v H
def rIxT (K : PySem.W.Frag) : R2 := fun x y H Q => ∃ p xs i v, x = .ref p ∧ y = .int i ∧ SqT K H p xs ∧ atI xs i = some v ∧ Q v H
def rIxS : R2 := fun x y H Q => ∃ z i c, x = .str z ∧ y = .int i ∧ z.length ≤ sizeLine ∧ atI z.cps.toList i = some c ∧ Q (.str ⟨#[c]⟩) H
theorem ix_list : IxR X (rIxL X.K) := by
  intro value slice pins s σ H x y v u Q I rx ry h hs
  obtain ⟨p, xs, i, z, rfl, rfl, hq, he, q⟩ := h
  cases rx
  obtain ⟨t, rfl⟩ := ry
  obtain ⟨its, r, pl, hz⟩ := I.list hq
  obtain ⟨j, h1, h2, h3, h4, h5⟩ := atI_get he
  obtain ⟨w, ew, rw'⟩ := r.get h2
  have hl := r.length
  have hn := line63
  have fin : EP X pins σ Q w s := ⟨z, H, I, rw', q⟩
  by_cases h0 : 0 ≤ i
  · have hj : i.toNat = j := by
      rw [seqIndex_of h0 h5] at h1
      exact Option.some.inj h1
    exact item_listR pl.isList h0 (by omega) (by rw [hj]; simpa using ew) fin hs
  · have hj : (i + (its.toArray.size : Int)).toNat = j := by
      rw [seqIndex_neg (by omega) h4] at h1
      rw [List.size_toArray, ← hl]
      exact Option.some.inj h1
    exact subscriptTail_builtinR (x := w) pl.isList.typeIs slot_list_getitem.lookup
      (wpAny_getItem_list_neg (Q := fun r s' => r = w ∧ EP X pins σ Q r s') pl.isList (by omega) (by rw [List.size_toArray] <;> omega) (by omega) (by rw [hj]; simpa using ew) ⟨rfl, fin⟩) hs
theorem ix_tup : IxR X (rIxT X.K) := by
  intro value slice pins s σ H x y v u Q I rx ry h hs
  obtain ⟨p, xs, i, z, rfl, rfl, hq, he, q⟩ := h
  cases rx
  obtain ⟨t, rfl⟩ := ry
  obtain ⟨its, r, pl, hz⟩ := I.tuple hq
  obtain ⟨j, h1, h2, h3, h4, h5⟩ := atI_get he
  obtain ⟨w, ew, rw'⟩ := r.get h2
  have hl := r.length
  have hn := line63
  have fin : EP X pins σ Q w s := ⟨z, H, I, rw', q⟩
  exact subscriptTail_builtinR (x := w) pl.typeIs slot_tuple_getitem.lookup
    (getItem_tuple (j := j) (Q := fun r s' => r = w ∧ EP X pins σ Q r s') pl (by omega) (by omega) (by rw [List.size_toArray, ← hl]; exact h1) (by simpa using ew) ⟨rfl, fin⟩) hs
theorem ix_str : IxR X rIxS := by
  intro value slice pins s σ H x y v u Q I rx ry h hs
  obtain ⟨z, i, c, rfl, rfl, hz, he, q⟩ := h
  obtain ⟨t, rfl⟩ := rx
  obtain ⟨t', rfl⟩ := ry
  obtain ⟨j, h1, h2, h3, h4, h5⟩ := atI_get he
  have hl : z.cps.toList.length = z.length := by simp [Str.length]
  rw [hl] at h1 h4 h5
  have hn := line63
  exact tail_any (typeIs_str s z t) slot_str_getitem.lookup (getItem_str (c := c) (by
    have e1 : decide (i < -(2 ^ 63 : Int)) = false := decide_eq_false (by omega)
    have e2 : decide (i ≥ 2 ^ 63) = false := decide_eq_false (by omega)
    rw [e1, e2, Bool.or_false]) (by rw [h1]; simpa using h2) ⟨.str ⟨#[c]⟩, H, I.tok _, ⟨_, rfl⟩, q⟩) hs
/-! ### xs[i] = v, any sign -/
theorem Inv.lst {pins : List (Addr × Obj)} {σ : St} {H : Hp} {s : Shared} {p : Addr} {xs : List V} (I : Inv X pins σ H s) (h : H p = some (.lst xs)) :
    ∃ (its : List Value) (n : Nat), Vals xs its ∧ s.heap.get? p = some { cls := .type "list", data := .seq its.toArray n } ∧ xs.length ≤ sizeLine := by
  obtain ⟨z, its, n, r, e⟩ := I.hok p _ h
  exact ⟨its, n, r, e, z⟩
/-! ### slices -/
theorem slice_bounds (lo hi : Option Int) (n : Nat) : (sliceBounds lo hi none n).1 = ((HT.sIx n 0 lo : Nat) : Int) ∧ (sliceBounds lo hi none n).2.1 = ((HT.sIx n n hi : Nat) : Int) ∧ (sliceBounds lo hi none n).2.2 = 1 := by
  refine ⟨?_, ?_, rfl⟩
  · cases lo with
    | none => simp [sliceBounds, HT.sIx]
    | some i =>
      simp only [sliceBounds, HT.sIx, Option.getD_none, show (1 : Int) > 0 by decide, if_true]
      by_cases h : i < 0
      · simp only [h, if_true] <;> omega
      · simp only [h, if_false] <;> omega
  · cases hi with
    | none => simp [sliceBounds, HT.sIx]
    | some i =>
      simp only [sliceBounds, HT.sIx, Option.getD_none, show (1 : Int) > 0 by decide, if_true]
      by_cases h : i < 0
      · simp only [h, if_true] <;> omega
      · simp only [h, if_false] <;> omega
theorem slicePick_cut (its : List Value) (lo hi : Option Int) : slicePick its.toArray lo hi none = ((its.drop (HT.sIx its.length 0 lo)).take (HT.sIx its.length its.length hi - HT.sIx its.length 0 lo)).toArray := by
  obtain ⟨h1, h2, h3⟩ := slice_bounds lo hi its.toArray.size
  unfold slicePick
  rw [h1, h2, h3]
  simp only [sliceRange_one, pick_run, List.size_toArray] <;> rfl
/-- xs[lo:hi] of a list: a new list -/
def rSlL (K : PySem.W.Frag) : V → Option Int → Option Int → Hp → VK → Prop := fun x lo hi H Q => ∃ a xs, x = .ref a ∧ SqL K H a xs ∧ ∀ p, H p = none → Q (.ref p) (upd H p (.lst (cutV xs lo hi)))
theorem sl_list : SlR X (rSlL X.K) := by
  intro pins s σ H x v vl vu lo hi sl Q I rx hs pl pu h
  obtain ⟨a, xs, rfl, hx, q⟩ := h
  cases rx
  obtain ⟨its, r, ht, hz⟩ := I.list hx
  have hlen := r.length
  refine ⟨"list", _, slot_list_getitem.lookup, ht.isList.typeIs, ?_⟩
  refine wpAny_getItem_list_slice ht.isList hs pl pu .none (by simp) ?_ (by rw [List.size_toArray] <;> omega)
  rw [slicePick_cut, ← hlen]
  refine ⟨.ref s.heap.objs.size, _, I.laid (t' := s.toks) (o := .lst (cutV xs lo hi)) (fun b ob q => Heap.get?_push_of_some _ q) (Nat.le_refl _) ?_, rfl, q _ (I.hok.fresh (Nat.le_refl _))⟩
  exact ⟨Nat.le_trans (cutV_length xs lo hi) hz, _, 0, (r.drop (HT.sIx xs.length 0 lo)).take (HT.sIx xs.length xs.length hi - HT.sIx xs.length 0 lo), Heap.get?_push_size _ rfl⟩

/-! ### in, not in: flat items -/
def flatV : V → Bool
  | .non => true
  | .bl _ => true
  | .int _ => true
  | .str _ => true
  | _ => false
/-- == of flat values -/
def eqV : V → V → Bool
  | .non, .non => true
  | .bl a, .bl b => a == b
  | .bl a, .int b => (if a then 1 else 0) == b
  | .int a, .bl b => a == (if b then 1 else 0)
  | .int a, .int b => a == b
  | .str a, .str b => a == b
  | _, _ => false
theorem eqAt_V {A : Around} {s : Shared} {y x : V} {u v : Value} (ry : RelV y u) (rx : RelV x v) (fy : flatV y = true) (fx : flatV x = true) : SeqAt.EqAt A s u v (eqV y x) := by
  cases y with
  | non =>
    cases ry
    cases x with
    | non => cases rx; exact SeqAt.EqAt.same _
    | bl b => cases rx; exact SeqAt.EqAt.none_bool b
    | int b => obtain ⟨t, rfl⟩ := rx; exact SeqAt.EqAt.none_int b t
    | str b => obtain ⟨t, rfl⟩ := rx; exact SeqAt.EqAt.none_str b t
    | _ => exact absurd (show false = true from fx) Bool.false_ne_true
  | bl a =>
    cases ry
    cases x with
    | non => cases rx; exact SeqAt.EqAt.bool_none a
    | bl b => cases rx; exact SeqAt.EqAt.bool_bool a b
    | int b => obtain ⟨t, rfl⟩ := rx; exact SeqAt.EqAt.bool_int a b t
    | str b => obtain ⟨t, rfl⟩ := rx; exact SeqAt.EqAt.bool_str a b t
    | _ => exact absurd (show false = true from fx) Bool.false_ne_true
  | int a =>
    obtain ⟨t', rfl⟩ := ry
    cases x with
    | non => cases rx; exact SeqAt.EqAt.int_none a t'
    | bl b => cases rx; exact SeqAt.EqAt.int_bool a t' b
    | int b => obtain ⟨t, rfl⟩ := rx; exact SeqAt.EqAt.int_int a t' b t
    | str b => obtain ⟨t, rfl⟩ := rx; exact SeqAt.EqAt.int_str a t' b t
    | _ => exact absurd (show false = true from fx) Bool.false_ne_true
  | str a =>
    obtain ⟨t', rfl⟩ := ry
    cases x with
    | non => cases rx; exact SeqAt.EqAt.str_none a t'
    | bl b => cases rx; exact SeqAt.EqAt.str_bool a t' b
    | int b => obtain ⟨t, rfl⟩ := rx; exact SeqAt.EqAt.str_int a t' b t
    | str b => obtain ⟨t, rfl⟩ := rx; exact SeqAt.EqAt.str_str a t' b t
    | _ => exact absurd (show false = true from fx) Bool.false_ne_true
  | _ => exact absurd (show false = true from fy) Bool.false_ne_true
/-- the items' answers, read off the values (a value's own answer does not lean on its token) -/
def eqU (x : V) (u : Value) : Bool := match u with
  | .none => eqV .non x
  | .bool b => eqV (.bl b) x
  | .int i _ => eqV (.int i) x
  | .str z _ => eqV (.str z) x
  | _ => false
theorem eqU_of {x y : V} {u : Value} (r : RelV y u) (f : flatV y = true) : eqU x u = eqV y x := by
  cases y with
  | non => cases r; rfl
  | bl b => cases r; rfl
  | int i => obtain ⟨t, rfl⟩ := r; rfl
  | str z => obtain ⟨t, rfl⟩ := r; rfl
  | _ => exact absurd (show false = true from f) Bool.false_ne_true
theorem any_eqU {x : V} : ∀ {xs : List V} {us : List Value}, Vals xs us → xs.all flatV = true → us.any (eqU x) = xs.any fun y => eqV y x
  | _, _, .nil, _ => rfl
  | y :: xs, u :: us, .cons r t, f => by
    rw [List.all_cons, Bool.and_eq_true] at f
    rw [List.any_cons, List.any_cons, eqU_of r f.1, any_eqU t f.2]
theorem mem_eqAt {A : Around} {s : Shared} {x : V} {v : Value} (rx : RelV x v) (fx : flatV x = true) : ∀ {xs : List V} {us : List Value}, Vals xs us → xs.all flatV = true → ∀ u ∈ us, SeqAt.EqAt A s u v (eqU x u)
  | _, _, .nil, _ => fun u hu => by cases hu
  | y :: xs, u :: us, .cons r t, f => fun u' hu => by
    rw [List.all_cons, Bool.and_eq_true] at f
    rcases List.mem_cons.mp hu with rfl | hu
    · rw [eqU_of r f.1]; exact eqAt_V r rx f.1 fx
    · exact mem_eqAt rx fx t f.2 u' hu
def inV (x : V) (xs : List V) : Bool := xs.any fun y => eqV y x
/-- x in a list or tuple of flat items -/
def rIn (K : PySem.W.Frag) (neg : Bool) : R2 := fun x y H Q => ∃ p xs, y = .ref p ∧ (SqL K H p xs ∨ SqT K H p xs) ∧ flatV x = true ∧ xs.all flatV = true ∧ Q (.bl (if neg then !inV x xs else inV x xs)) H
theorem op_in_seq : OpR X (compareOp .In) (rIn X.K false) := by
  intro pins s σ H x y v u Q I rx ry h
  obtain ⟨p, xs, rfl, hq, fx, fs, q⟩ := h
  cases ry
  rcases hq with hq | hq
  · obtain ⟨its, r, pl, hz⟩ := I.list hq
    refine SeqAt.in_listAt (eqU x) pl.isList (fun w hw => mem_eqAt rx fx r fs w (by simpa using hw)) ⟨.bl _, H, I, rfl, ?_⟩
    rw [show its.toArray.any (eqU x) = its.any (eqU x) by simp, any_eqU r fs]
    exact q
  · obtain ⟨its, r, pl, hz⟩ := I.tuple hq
    refine SeqAt.in_tupleAt (eqU x) pl (fun w hw => mem_eqAt rx fx r fs w (by simpa using hw)) ⟨.bl _, H, I, rfl, ?_⟩
    rw [show its.toArray.any (eqU x) = its.any (eqU x) by simp, any_eqU r fs]
    exact q
/-! ### len, list(x), tuple(x) of any list or tuple that is read -/
theorem call_len_seq : CallR X (.builtin "len") (fun xs H Q => ∃ p ys, xs = [.ref p] ∧ (SqL X.K H p ys ∨ SqT X.K H p ys) ∧ Q (.int ys.length) H) := by
  intro pins s σ H xs us Q I r h
  obtain ⟨p, ys, rfl, hq, q⟩ := h
  obtain ⟨u, rfl, rx⟩ := vals1 r
  cases rx
  have hn := line63
  rcases hq with hq | hq
  · obtain ⟨its, r', pl, hz⟩ := I.list hq
    have hlen := r'.length
    exact Calls.call_len_list pl.isList (by simp only [List.size_toArray] <;> omega) ⟨.int ys.length, H, I.tok _, ⟨s.toks + 1, by rw [List.size_toArray, hlen]⟩, q⟩
  · obtain ⟨its, r', pl, hz⟩ := I.tuple hq
    have hlen := r'.length
    exact len_tuple pl (by simp only [List.size_toArray] <;> omega) ⟨.int ys.length, H, I.tok _, ⟨s.toks + 1, by rw [List.size_toArray, hlen]⟩, q⟩
theorem call_len_str : CallR X (.builtin "len") (fun xs H Q => ∃ z, xs = [.str z] ∧ z.length ≤ sizeLine ∧ Q (.int z.length) H) := by
  intro pins s σ H xs us Q I r h
  obtain ⟨z, rfl, hz, q⟩ := h
  obtain ⟨u, rfl, t, rfl⟩ := vals1 r
  have hn := line63
  exact len_str (by omega) ⟨.int z.length, H, I.tok _, ⟨_, rfl⟩, q⟩
theorem CallR.or {f : Value} {r r' : List V → Hp → VK → Prop} (h : CallR X f r) (h' : CallR X f r') : CallR X f (fun xs H Q => r xs H Q ∨ r' xs H Q) := by
  intro pins s σ H xs us Q I rs q
  rcases q with q | q
  · exact h pins s σ H xs us Q I rs q
  · exact h' pins s σ H xs us Q I rs q
/-! ### the call of a builtin's method: o.m(..) -/
/-- the value is of that builtin type -/
def tyV (K : PySem.W.Frag) (T : String) (x : V) (H : Hp) : Prop := match x with
  | .str _ => T = "str"
  | .int _ => T = "int"
  | .ref p => (T = "list" ∧ ∃ xs, SqL K H p xs) ∨ (T = "tuple" ∧ ∃ o, K.lookup p = some o ∧ o.cls = .type "tuple" ∧ o.dict = none) ∨
      (T = "dict" ∧ ((∃ kvs, H p = some (.dK kvs)) ∨ ∃ kvs, H p = some (.dT kvs))) ∨ (T = "set" ∧ ∃ S n, H p = some (.set S n))
  | _ => False
theorem tyV_is {pins : List (Addr × Obj)} {σ : St} {H : Hp} {s : Shared} {T : String} {x : V} {v : Value} (I : Inv X pins σ H s) (r : RelV x v) (ty : tyV X.K T x H) :
    s.TypeIs v T ∧ ∀ a, v = .ref a → ∃ ob, s.heap.get? a = some ob ∧ ob.dict = none := by
  cases x with
  | str z =>
    obtain ⟨t, rfl⟩ := r
    cases (show T = "str" from ty)
    exact ⟨typeIs_str s z t, fun _ e => nomatch e⟩
  | int i =>
    obtain ⟨t, rfl⟩ := r
    cases (show T = "int" from ty)
    exact ⟨typeIs_int s i t, fun _ e => nomatch e⟩
  | ref p =>
    cases r
    rcases ty with ⟨rfl, xs, hq⟩ | ⟨rfl, o, hk, hc, hd⟩ | ⟨rfl, hk⟩ | ⟨rfl, S, n, hk⟩
    · obtain ⟨its, _, pl, _⟩ := I.list hq
      refine ⟨pl.isList.typeIs, fun a e => ?_⟩
      cases e
      obtain ⟨o, n, e, c, hd, _⟩ := pl
      exact ⟨o, e, hd⟩
    · refine ⟨⟨o, I.kIn p o hk, hc⟩, fun a e => ?_⟩
      cases e
      exact ⟨o, I.kIn _ o hk, hd⟩
    · have z : ∃ o, s.heap.get? p = some o ∧ o.ExactDict := by
        rcases hk with ⟨kvs, hk⟩ | ⟨kvs, hk⟩
        · obtain ⟨_, _, _, _, o, _, _, e, ex, _⟩ := I.hok p _ hk
          exact ⟨o, e, ex⟩
        · obtain ⟨_, _, _, _, o, _, _, e, ex, _⟩ := I.hok p _ hk
          exact ⟨o, e, ex⟩
      obtain ⟨o, e, ex⟩ := z
      refine ⟨⟨o, e, ex.1⟩, fun a e2 => ?_⟩
      cases e2
      exact ⟨o, e, ex.2.1⟩
    · obtain ⟨o, _, _, _, e, ex, _⟩ := I.hok p _ hk
      refine ⟨⟨o, e, ex.1⟩, fun a e2 => ?_⟩
      cases e2
      exact ⟨o, e, ex.2.1⟩
  | _ => exact False.elim ty
def tBM (K : PySem.W.Frag) (T : String) (r : V → List V → Hp → VK → Prop) (to : TE) (t : TA) : TE := fun σ H Q => to σ H fun x H1 => tyV K T x H1 ∧ t σ H1 fun xs H2 => r x xs H2 Q
variable {o e : Expr} {es : List Expr} {to : TE} {t : TA} {name : Str} {apos cpos : Pos} {T id : String} {r : V → List V → Hp → VK → Prop}
theorem pe_bm (pa : PlainAttrs T) (slot : Slot T name id) (hty : typeOf (.builtin id) = pure (.type "method_descriptor")) (hm : MtR X id r) (ho : PE X o to) (ha : PA X (e :: es) t)
    (hbase : attributeBase o name X.env (eval o X.env) = eval o X.env := by rfl)
    (hfew : ((backTo cpos (starEach (e :: es) X.env)).all (fun x => !x.1) && (backToKw cpos (keywordEach [] X.env)).all (fun x => x.1.isSome)
      && decide ((e :: es).length + ([] : List Keyword).length + (if ([] : List Keyword).isEmpty then 0 else 1) < 30)) = true := by rfl)
    (hline : (apos.endLine == cpos.line) = true := by rfl) (hs : starEach (e :: es) X.env = (false, eval e X.env) :: starEach es X.env := by rfl) (hplain : (backTo cpos (starEach es X.env)).any (·.1) = false := by rfl) :
    PE X (.Call (.Attribute o name apos) (e :: es) [] cpos) (tBM X.K T r to t) := by
  intro pins s σ H Q I h
  refine wpAny_Call_method_late hbase hfew hline rfl (thn (ho pins s σ H _ I h) fun v s1 ⟨x, H1, I1, r1, ty, q1⟩ => ?_)
  obtain ⟨h1, h2⟩ := tyV_is I1 r1 ty
  refine ⟨T, id, pa, slot, hty, h1, h2, ?_⟩
  have hA := ha cpos pins s1 σ H1 _ I1 q1
  rw [hs] at hA ⊢
  refine Calls.callWith_builtin (by show (false || (backTo cpos (starEach es X.env)).any (·.1)) = false; rw [hplain] <;> rfl) (Calls.evalArgs_plain ?_)
  exact thn hA fun us s2 ⟨vs, H2, I2, r2, q2⟩ => hm pins s2 σ H2 x vs v us Q I2 r1 r2 q2
/- xs.append(e), list.index on a module's tuple .. are MtR facts of 06m -/
end
end L2

namespace L2
open PySem PySem.Spec PyProof.Rows

def MtM (X : Cx) (id : String) (r : V → List V → Hp → VK → Prop) : Prop :=
  ∀ (pins : List (Addr × Obj)) (s : Shared) (σ : St) (H : Hp) (x : V) (xs : List V) (v : Value) (us : List Value) (Q : VK), Inv X pins σ H s → RelV x v → Vals xs us → r x xs H Q →
    wpAny (model X.prog X.w) X.A (call (.builtin id) (v :: us)) (EP X pins σ Q) X.xe s

/-! ### lists of values -/
theorem Vals.one : ∀ {x : V} {us : List Value}, Vals [x] us → ∃ u, us = [u] ∧ RelV x u
  | _, _, .cons r .nil => ⟨_, rfl, r⟩
theorem Vals.two : ∀ {x y : V} {us : List Value}, Vals [x, y] us → ∃ u v, us = [u, v] ∧ RelV x u ∧ RelV y v
  | _, _, _, .cons r (.cons q .nil) => ⟨_, _, rfl, r, q⟩
theorem Vals.zero : ∀ {us : List Value}, Vals [] us → us = []
  | _, .nil => rfl
theorem Vals.dropLast {xs : List V} {us : List Value} (h : Vals xs us) : Vals xs.dropLast us.dropLast := by
  induction h with
  | nil => exact .nil
  | cons r t ih =>
    cases t with
    | nil => exact .nil
    | cons q t' => exact .cons r ih
theorem Vals.eraseIdx : ∀ {xs : List V} {us : List Value} (i : Nat), Vals xs us → Vals (xs.eraseIdx i) (us.eraseIdx i)
  | _, _, _, .nil => .nil
  | _, _, 0, .cons _ t => t
  | _, _, i + 1, .cons r t => .cons r (Vals.eraseIdx i t)
theorem Vals.reverse {xs : List V} {us : List Value} (h : Vals xs us) : Vals xs.reverse us.reverse := by
  induction h with
  | nil => exact .nil
  | cons r t ih => rw [List.reverse_cons, List.reverse_cons]; exact Vals.append ih (.cons r .nil)
section
variable {X : Cx} {pins : List (Addr × Obj)} {σ : St} {H : Hp} {s : Shared} {l b : Addr} {xs ys zs : List V}

/-! ### the two steps: a tracked list is rewritten, a new list is laid -/
theorem Inv.lset {its its' : List Value} {n : Nat} {f : Array Value → Array Value} {t' : Nat} (I : Inv X pins σ H s) (hH : H l = some (.lst xs))
    (e : s.heap.get? l = some { cls := .type "list", data := .seq its.toArray n }) (hf : f its.toArray = its'.toArray) (hv : Vals ys its') (hz : ys.length ≤ sizeLine) :
    Inv X pins σ (upd H l (.lst ys)) { s with heap := s.heap.update l (Obj.mapSeq f), toks := t' } := by
  have q := PySem.IsL.update e f
  rw [hf] at q
  refine I.write (x := l) (e := l) (by rw [hH]; exact trivial) (.inl rfl) (fun b' u hb hu => (Heap.get?_update_other s.heap (Obj.mapSeq f) (Ne.symm hb)).trans hu) ⟨_, q⟩ ?_
  exact ⟨hz, its', _, hv, q⟩
theorem Inv.lnew {its : List Value} {t' : Nat} (I : Inv X pins σ H s) (hv : Vals ys its) (hz : ys.length ≤ sizeLine) :
    Inv X pins σ (upd H s.heap.objs.size (.lst ys)) { s with heap := s.heap.push { cls := .type "list", data := .seq its.toArray }, toks := t' } :=
  I.laid (fun _ _ q => Heap.get?_push_of_some _ q) (Nat.le_refl _) ⟨hz, its, 0, hv, Heap.get?_push_size _ rfl⟩
theorem Inv.fresh (I : Inv X pins σ H s) : H s.heap.objs.size = none := I.hok.fresh (Nat.le_refl _)
theorem Inv.lstM (I : Inv X pins σ H s) (hH : H l = some (.lst xs)) : xs.length ≤ sizeLine ∧ ∃ (its : List Value) (n : Nat), Vals xs its ∧ xs.length = its.length ∧ s.heap.get? l = some { cls := .type "list", data := .seq its.toArray n } := by
  obtain ⟨z, its, n, r, e⟩ := I.hok l _ hH
  exact ⟨z, its, n, r, r.length, e⟩

end

section
variable {X : Cx}

/-! ### methods -/
def rAppend : V → List V → Hp → VK → Prop := fun x vs H Q => ∃ l xs y, x = .ref l ∧ vs = [y] ∧ H l = some (.lst xs) ∧ xs.length < sizeLine ∧ Q .non (upd H l (.lst (xs ++ [y])))
theorem mt_append : MtM X "list.append" rAppend := by
  intro pins s σ H x vs v us Q I rx rv h
  obtain ⟨l, xs, y, rfl, rfl, hH, hz, q⟩ := h
  cases rx
  obtain ⟨u, rfl, ru⟩ := rv.one
  obtain ⟨z, its, n, r, hl, e⟩ := I.lstM hH
  refine call_meets F.slot_list_append ⟨_, e, rfl⟩ F.entry_list_append (F.args_list_append_2 _ _) (PySem.list_append l its.toArray n u (by rw [List.size_toArray]; omega)) ⟨e, ?_⟩
  refine ⟨.non, _, I.lset (its' := its ++ [u]) hH e (by simp) (r.append (.cons ru .nil)) ?_, rfl, q⟩
  rw [List.length_append, List.length_singleton]
  omega

/-! ### list + list, list += list, list * int -/
/-! ### del xs[i] -/
end

/-! ### xs[a:b] = ys -/
section
variable {prog : Program} {w : World} {A : Around} {E : Value → Shared → Prop} {s : Shared}
end

section
variable {X : Cx}
end
end L2

namespace Att
open PySem PySem.W PySem.Calls PyProof.Rows

/-! ### the script -/
theorem ints_of_wellAll {P : Params} {h : Heap} : ∀ (ns : List Int) (vs : List Value), WellAll P h vs (ns.map WData.int) → IntsAre vs ns := by
  intro ns
  induction ns with
  | nil =>
    intro vs w
    rw [List.map_nil] at w
    cases w
    exact .nil
  | cons n ns ih =>
    intro vs w
    rw [List.map_cons] at w
    cases w with
    | cons a b =>
      cases a
      exact .cons _ _ (ih _ b)

theorem script_of {l : OpenLaw} {n : Nat} (hn : l.most = some n) {P : Params} {h : Heap} {args : List WData} {vals : List Value}
    (hpre : l.row.toRowW.claim.pre args = true) (hwl : WellAll P h vals args) :
    ∃ a vs ns, vals = [Value.ref a] ∧ args = [WData.list (ns.map WData.int)] ∧ h.get? a = some { cls := .type "list", data := .seq vs.toArray } ∧ IntsAre vs ns ∧ ns.length ≤ n := by
  have hsh : WShape.hasAll [] args [.list .int] = true := (pre_splitW hpre).1
  have hc : l.pre.holds [] { args := args } = true := (pre_splitW hpre).2
  obtain ⟨d, r, rfl, h1, h2⟩ := hasAllW_cons hsh
  obtain rfl := hasAllW_nil h2
  obtain ⟨xs, rfl, h3⟩ := hasW_list h1
  obtain ⟨ns, rfl⟩ := items_int h3
  have hlen : ns.length ≤ n := by
    unfold OpenLaw.pre at hc
    have h4 : (WTm.not (.lt (.lit (.int (n : Int))) (.len (.arg 0)))).holds [] { args := [.list (ns.map .int)] } = true := by
      have h4 := (holds_andW hc).1
      rw [hn] at h4
      exact h4
    have h5 := condW_of h4 (w_not (w_lt w_lit (w_len_list (w_arg rfl))))
    rw [List.length_map] at h5
    refine Nat.le_of_not_lt fun q => ?_
    have q' : (n : Int) < ((ns.length : Nat) : Int) := by omega
    first
      | (rw [decide_eq_true q'] at h5; exact absurd h5 (by decide))
      | (simp at h5; omega)
  cases hwl with
  | cons w1 w2 =>
    cases w2
    cases w1 with
    | list ho hall => exact ⟨_, _, ns, rfl, rfl, ho, ints_of_wellAll ns _ hall, hlen⟩

theorem post_true (l : OpenLaw) (args : List WData) : l.row.toRowW.claim.post args (.bool true) args = true :=
  postW_of (r := l.row.toRowW) (X := (true == true))
    (show WShape.has [] (.bool true) .bool = true by first | rfl | decide | simp [WShape.has, WShape.arms, WShape.armsAll])
    (show (WTm.eq .res (.lit (.bool true))).value [] { args := args, res := some (.bool true), after := args } = some (.bool (true == true)) from w_eq_bool (w_res rfl) w_lit) rfl

/-! ### the attachment: holds_open's last premise (the goal 'hc' behind k_head) from a wpAny of the law's body -/
/-- the same from a codeAny of the CALL (for a layer whose function contracts speak of calls) -/
theorem attach_call {l : OpenLaw} {n : Nat} {q : Program} {loose : List Str} {XP : (Str → Option Value) → Heap → Prop} {YP : World → Heap → Prop} {d : DefRec}
    (hn : l.most = some n) (hdf : d.params.defaults = [])
    (call : ∀ (w : World) (s₀ s₁ : Shared) (mg mb : Str → Option Value) (fa : Addr) (o : Obj) (pm cd doc : Value) (a : Addr) (vs : List Value) (ns : List Int),
      Ground q loose [] XP w s₀ mg mb s₁.heap → YP w s₁.heap →
      s₁.heap.get? fa = some o → o.data = .func (docDef d.name d.params d.body d.scope pm cd doc) → s₁.heap.CodeRec cd d.name → mg d.name = some (.ref fa) →
      s₁.heap.get? a = some { cls := .type "list", data := .seq vs.toArray } → IntsAre vs ns → ns.length ≤ n → s₁.gens = #[] →
      codeAny (model l.prog w) callerA (.call (.ref fa) ⟨[.ref a], []⟩) (fun r s' => r = .ok (.ret (.bool true)) ∧ OldK s₁.heap s'.heap ∧ s'.os = s₁.os ∧ AllBare s'.gens) s₁) :
    WalkO q loose XP YP l.row.toRowW d [] (fun f vs => PySem.call f vs) := by
  intro w s₀ s₁ mg mb G Y fa o pm cd doc dV kV ho hd hcd hD hmg hg args vals as hpre hlay hrd hwl hlo
  obtain rfl : dV = .none := Dflts.none hD hdf
  obtain rfl : kV = .none := Dflts.noKw hD
  obtain ⟨a, vs, ns, rfl, rfl, hobj, hints, hlen⟩ := script_of hn hpre hwl
  refine enter_call (codeAny_mono (call w s₀ s₁ mg mb fa o pm cd doc a vs ns G Y ho (fd_plain hd) hcd hmg hobj hints hlen hg) fun r s' hq => ?_)
  obtain ⟨rfl, h2, h3, h4⟩ := hq
  exact ⟨.inl ⟨.bool true, .bool true, [], rfl, fun _ => rfl, .bool true, post_true l _, fun _ => ⟨List.Pairwise.nil, fun _ hm => (nomatch hm)⟩⟩, h2, h3, h4⟩

/-! ### rules over ANY heap (no ledger) from facts about the written part K: the library's own take a ledger (News) for what they write -/
section
variable {prog : Program} {w : World} {A : Around} {E : Value → Shared → Prop} {s : Shared} {K : Frag}

/-! the whole heap as the ledger: makes every rule that writes through a ledger a rule over any heap -/
def ledger (h : Heap) (L d : Addr) : List (Addr × Obj) := (List.range h.objs.size).filterMap fun a => if a = L ∨ a = d then none else (h.get? a).map fun o => (a, o)
end
end Att

namespace L2
open PySem PySem.Spec PyProof.Rows

theorem vals_ints : ∀ {vs : List Value} {ns : List Int}, IntsAre vs ns → Vals (ns.map V.int) vs
  | _, _, .nil => .nil
  | _, _, .cons n t h => .cons ⟨t, rfl⟩ (vals_ints h)

/-- nothing is tracked but the script, known to the object (or it is an object of the module) -/
def Only (H : Hp) : Prop := ∀ b, H b = none ∨ ∃ o xs, H b = some (.frz o (.lst xs))

/-- THE HEAD: the law's promise, at the heap behind the top. F, the promise of the law's def, may use that base is part of the heap (so K.In base, base.Ns mainGlobals mg stand in Mod) -/
theorem law_call {P : Program} {w : World} {K : PySem.W.Frag} {mg mb : Str → Option Value} {CX : CXT} {k : Nat} {fa a : Addr} {fd : FuncData} {x : Str} {sp : Sp} {s₁ : Shared} {vs : List Value} {ns : List Int}
    (KX : K.In s₁.heap) (hns : s₁.heap.Ns mainGlobals mg) (hb : s₁.heap.Ns builtinsNs mb) (hbb : ∀ x : Str, x ≠ "__name__" → mb x = bootBuiltins x) (hlim : s₁.heap.NoLimit) (hg : s₁.gens = #[])
    (ha : s₁.heap.get? a = some { cls := .type "list", data := .seq vs.toArray }) (hi : IntsAre vs ns) (hl : ns.length ≤ sizeLine) (hr : Room k callerA)
    (F : ∀ base : Heap, K.In base → base.Ns mainGlobals mg → FnOk P w K mg base CX k fa fd [x] sp) (hbind : ∀ (s : Shared) (u : Value), BindsTo s fd ⟨[u], []⟩ [(x, u)])
    (hsp : ∀ H : Hp, Only H → SqL K H a (ns.map V.int) → sp [.ref a] H (fun v _ => v = .bl true) fun _ _ _ => False)
    (hCX : ∀ H e s', CX [] H s₁ (fun _ _ _ => False) e s' → False) :
    codeAny (model P w) callerA (.call (.ref fa) ⟨[.ref a], []⟩) (fun r s' => r = .ok (.ret (.bool true)) ∧ OldK s₁.heap s'.heap ∧ s'.os = s₁.os ∧ AllBare s'.gens) s₁ := by
  have rv := vals_ints hi
  have lenV := hi.length
  -- from an abstract heap in which nothing but the script may be tracked
  have core : ∀ H : Hp, Only H → SqL K H a (ns.map V.int) → HOk P w H s₁.heap → (∀ b, H b ≠ none → b = a) → (H a ≠ none → K.lookup a = none) →
      codeAny (model P w) callerA (.call (.ref fa) ⟨[.ref a], []⟩) (fun r s' => r = .ok (.ret (.bool true)) ∧ OldK s₁.heap s'.heap ∧ s'.os = s₁.os ∧ AllBare s'.gens) s₁ := by
    intro H hO hS hok hA hK
    have base_of : ∀ {b : Addr} {o : Obj}, s₁.heap.get? b = some o → H b = none → (hidT s₁.heap H).get? b = some o := fun e n => hidT_get e n
    have noA : ∀ {b : Addr} {o : Obj} {es : Array DictEntry} {ep : Nat}, s₁.heap.get? b = some o → o.data = .dict es ep → H b = none := fun {b o es ep} e d => by
      cases q : H b with
      | none => rfl
      | some u =>
        have e' : b = a := hA b (by rw [q]; simp)
        subst e'
        rw [ha] at e; cases e
        have d' : Data.seq vs.toArray _ = Data.dict es ep := d
        cases d'
    have nsK : ∀ {b : Addr} {m : Str → Option Value}, s₁.heap.Ns b m → (hidT s₁.heap H).Ns b m := fun {b m} ⟨o, es, ep, e, d, r⟩ => ⟨o, es, ep, base_of e (noA e d), d, r⟩
    have hKb : K.In (hidT s₁.heap H) := fun b o e => base_of (KX b o e) (by
      cases q : H b with
      | none => rfl
      | some u =>
        have e' : b = a := hA b (by rw [q]; simp)
        subst e'
        rw [hK (by rw [q]; simp)] at e; cases e)
    have hM : Mod K mg (hidT s₁.heap H) := ⟨hKb, nsK hns, ⟨mb, nsK hb, hbb⟩, let ⟨mc, h1, h2⟩ := hlim; ⟨mc, nsK h1, h2⟩⟩
    have e0 : Env0 P w K mg (hidT s₁.heap H) callerA [] s₁ H := ⟨rfl, hM, fun b o e => of_hidT e, Nat.le_of_eq (hidT_size _ _), trivial, fun b hb => absurd (show b ∈ ([] : List Addr) from hb) (by simp), hok, .of_eq hg⟩
    refine codeAny_mono ((F _ hKb (nsK hns)).run callerA [] s₁ H ⟨[.ref a], []⟩ [.ref a] [.ref a] _ _ hr e0 (hbind s₁ (.ref a)) (.cons rfl .nil) (hsp H hO hS)) fun r s' h => ?_
    cases r with
    | error e => exact (hCX H e s' h).elim
    | ok fl =>
      cases fl with
      | next => exact False.elim h
      | brk => exact False.elim h
      | cont => exact False.elim h
      | ret u =>
        obtain ⟨v, H', os, bare, un, hok', r', q⟩ := h
        have q' : v = .bl true := q
        subst q'
        obtain rfl : u = Value.bool true := r'
        refine ⟨rfl, OldK.of_keep fun b o e => ?_, os, bare⟩
        cases q : H b with
        | none => exact un.keep b o e q (by intro z; exact absurd (show b ∈ ([] : List Addr) from z) (by simp)) (by simp)
        | some u =>
          rcases hO b with z | ⟨ob, xs, z⟩
          · rw [q] at z; cases z
          · have z2 := un.frzs b ob _ z
            obtain ⟨e1, _⟩ := hok b _ z
            obtain ⟨e2, _⟩ := hok' b _ z2
            rw [e] at e1; cases e1
            exact e2
  cases hk : K.lookup a with
  | some o =>
    -- the script is one of the module's own objects
    have e := KX a o hk
    rw [ha] at e
    cases e
    refine core (fun _ => none) (fun _ => .inl rfl) (.inr ⟨_, vs.toArray, _, hk, rfl, rfl, rfl, by rw [List.size_toArray, lenV]; exact hl, by simpa using rv⟩) (fun b u z => by have z' : (none : Option HO) = some u := z; cases z') (fun b z => absurd rfl z) fun z => absurd rfl z
  | none =>
    refine core (fun b => if b = a then some (.frz { cls := .type "list", data := .seq vs.toArray } (.lst (ns.map V.int))) else none) (fun b => ?_) (.inl (.inr ⟨{ cls := .type "list", data := .seq vs.toArray }, if_pos rfl⟩)) (fun b u z => ?_) (fun b z => ?_) fun _ => hk
    · by_cases hb : b = a
      · exact .inr ⟨_, _, if_pos hb⟩
      · exact .inl (if_neg hb)
    · by_cases hb : b = a
      · have z' := (if_pos hb).symm.trans z
        cases z'
        subst hb
        exact ⟨ha, by rw [List.length_map]; exact hl, vs, _, rv, ha⟩
      · have z' := (if_neg hb).symm.trans z
        cases z'
    · by_cases hb : b = a
      · exact hb
      · exact absurd (if_neg hb) z
end L2

namespace L2
open PySem PySem.Spec PyProof.Rows

/-- the goal that k_head leaves (case hc), from the law's promise. F gives the function object fd (K's own) once, then the promise over every base -/
theorem walk_of {l : PySem.W.OpenLaw} {n k : Nat} {q : Program} {loose : List Str} {XP : (Str → Option Value) → Heap → Prop} {YP : World → Heap → Prop} {d : DefRec} {K : Params → PySem.W.Frag} {CX : World → CXT} {sp : World → Sp} {x : Str}
    (hn : l.most = some n) (hn2 : n ≤ sizeLine) (hdf : d.params.defaults = []) (hr : Room k callerA)
    (hY : ∀ (w : World) (h : Heap), YP w h → (K w.params).In h)
    (F : ∀ (w : World) (mg : Str → Option Value) (fa : Addr) (h : Heap), (K w.params).In h → h.Ns mainGlobals mg → mg d.name = some (.ref fa) →
      ∃ fd : FuncData, (∀ (s : Shared) (u : Value), BindsTo s fd ⟨[u], []⟩ [(x, u)]) ∧
        ∀ base : Heap, (K w.params).In base → base.Ns mainGlobals mg → FnOk l.prog w (K w.params) mg base (CX w) k fa fd [x] (sp w))
    (hsp : ∀ (w : World) (H : Hp) (a : Addr) (ns : List Int), ns.length ≤ n → Only H → SqL (K w.params) H a (ns.map V.int) → sp w [.ref a] H (fun v _ => v = .bl true) fun _ _ _ => False)
    (hCX : ∀ (w : World) (H : Hp) (s : Shared) (e : Value) (s' : Shared), CX w [] H s (fun _ _ _ => False) e s' → False) :
    PySem.W.WalkO q loose XP YP l.row.toRowW d [] (fun f vs => PySem.call f vs) := by
  refine Att.attach_call hn hdf fun w s₀ s₁ mg mb fa o pm cd doc a vs ns G Y ho hd hcd hmg hobj hints hlen hg => ?_
  have KX := hY w _ Y
  obtain ⟨fd, hb, hF⟩ := F w mg fa _ KX G.T.g hmg
  exact law_call KX G.T.g G.T.b G.T.builtins G.T.nolimit hg hobj hints (Nat.le_trans hlen hn2) hr hF hb (fun H hO hS => hsp w H a ns hlen hO hS) fun H e s' => hCX w H s₁ e s'
end L2

/- THE LAST THEOREM (shape; LID, My.* are yours):
   My.Adr: a structure of the addresses that your layer names (classes, functions); My.Txt K t: a structure (Prop) of the equations over K;
   My.txt_mk : {K} {implicit addresses ..} (e1 : nsIn K mainGlobals "law" = some (some (.ref f))) (e2 : K.lookup f = some ⟨oc, od, .func (fnOf "law" "law" params body scope dV kV doc pm an cdv ct), sl⟩) (e3 : codeIn K cdv "law" = true) .. : ∃ t, My.Txt K t

(the tactic k_is has no namespace: write k_is) -/

/-! SHORT WORDS over the layer: a def of the text, its body, what a loop and a test want. -/
namespace L2
open PySem PySem.Spec PyProof.Rows

/-! ### the text by places -/
def defArgs (s : Stmt) : Arguments := match s with
  | .FunctionDef _ a _ _ _ _ _ _ _ _ => a
  | _ => { posonlyargs := [], args := [], vararg := none, kwonlyargs := [], kw_defaults := [], kwarg := none, defaults := [] }
def defBody (s : Stmt) : List Stmt := match s with
  | .FunctionDef _ _ b _ _ _ _ _ _ _ => b
  | _ => []
def defScope (s : Stmt) : Scope := match s with
  | .FunctionDef _ _ _ _ _ _ sc _ _ _ => sc
  | _ => { kind := .function, names := [], isGenerator := false, isCoroutine := false }

/-! ### no exception leaves a def -/
abbrev CX0 : CXT := fun _ _ _ _ _ _ => False
abbrev E0 : XK := fun _ _ _ => False
/-! ### a def (or method) of the text as it stands behind the top -/
structure Fun (K : PySem.W.Frag) (x qual : Str) (st : Stmt) (f : Addr) (fd : FuncData) : Prop where
  ex : ∃ (oc : Value) (od : Option Addr) (kV doc pm : Value) (an : Option Addr) (cdv ct : Value) (osl : Array (Option Value)),
    fd = PySem.W.fnOf x qual (defArgs st) (defBody st) (defScope st) .none kV doc pm an cdv ct ∧ K.lookup f = some ⟨oc, od, .func fd, osl⟩ ∧ PySem.W.codeIn K cdv qual = true
  kp : PySem.W.keepIn K (.ref f) = true
section
variable {P : Program} {w : World} {K : PySem.W.Frag} {mg : Str → Option Value} {base : Heap}
/-- THE RULE for a def: its body as a term of rules, and the reading of that term -/
theorem Fun.ok {x qual : Str} {st : Stmt} {f : Addr} {fd : FuncData} {N ps : List Str} {k : Nat} {sp : Sp} (F : Fun K x qual st f fd) (S : FnScope N ps (defScope st)) (len : ∀ vs H Q E, sp vs H Q E → vs.length = ps.length)
    (hbody : ∀ (cdv : Value) (A : Around) (outer : List Env) (s : Shared) (H : Hp) (vs : List V) (Q : VK) (E : XK), Room k (A.deeper (envOfC qual (defScope st) s.heap.objs.size f cdv)) → sp vs H Q E →
      ∃ t, PSs (cxOf CX0 P w K mg base N qual (defScope st) f cdv A outer s H E).nox (defBody st) t ∧ t { nx := fun _ H' => Q .non H', rt := Q } (start N vs) H) : FnOk P w K mg base CX0 (k + 1) f fd ps sp := by
  obtain ⟨oc, od, kV, doc, pm, an, cdv, ct, osl, rfl, lk, hcd⟩ := F.ex
  refine fn_of lk hcd S len fun A outer s H vs Q E hr hsp => ?_
  obtain ⟨t, h, q⟩ := hbody cdv A outer s H vs Q E hr hsp
  exact ⟨t, h.nox, q⟩
/-- how its arguments bind (no defaults): h is «fun _ _ _ _ _ _ us hl => match us, hl with | [_, _], _ => rfl», one _ a parameter -/
theorem Fun.binds {x qual : Str} {st : Stmt} {f : Addr} {fd : FuncData} {ps : List Str} (F : Fun K x qual st f fd)
    (h : ∀ (kV doc pm : Value) (an : Option Addr) (cdv ct : Value) (us : List Value), us.length = ps.length → bindArgs (PySem.W.fnOf x qual (defArgs st) (defBody st) (defScope st) .none kV doc pm an cdv ct) ⟨us, []⟩ = pure (ps.zip us)) : Binds K fd ps [] := by
  obtain ⟨oc, od, kV, doc, pm, an, cdv, ct, osl, rfl, lk, hcd⟩ := F.ex
  exact .all (h kV doc pm an cdv ct)
theorem fun_mk {x qual : Str} {st : Stmt} {f : Addr} {oc : Value} {od an : Option Addr} {osl : Array (Option Value)} {kV doc pm cdv ct : Value} (l : K.lookup f = some ⟨oc, od, .func (PySem.W.fnOf x qual (defArgs st) (defBody st) (defScope st) .none kV doc pm an cdv ct), osl⟩)
    (c : PySem.W.codeIn K cdv qual = true) (k : PySem.W.keepIn K (.ref f) = true) : Fun K x qual st f (PySem.W.fnOf x qual (defArgs st) (defBody st) (defScope st) .none kV doc pm an cdv ct) := ⟨⟨oc, od, kV, doc, pm, an, cdv, ct, osl, rfl, l, c⟩, k⟩
end
/-! ### expressions in short: the name that stands in the i-th slot -/
section
variable {X : Cx}
theorem pv (i : Nat) {x : Str} {pos : Pos} (hN : X.N[i]? = some x := by rfl) (hv : Vis X.env.scope x := by first | exact Or.inl rfl | exact Or.inr (Or.inl rfl) | exact Or.inr (Or.inr rfl)) (hd : (x == ("__debug__" : Str)) = false := by decide)
    (hcd : (x == ("__classdict__" : Str)) = false := by decide) : PE X (.Name x pos) (tVar i) := pe_var hN hv hd hcd
end

/-! ### tests -/
/-! ### heaps -/
/-- all that was tracked is as it was -/
def Same (H H' : Hp) : Prop := ∀ b o, H b = some o → H' b = some o
theorem Same.refl (H : Hp) : Same H H := fun _ _ h => h
theorem Same.trans {H H1 H2 : Hp} (a : Same H H1) (b : Same H1 H2) : Same H H2 := fun c o h => b c o (a c o h)
theorem Same.free {H H' : Hp} (e : Same H H') {l : Addr} (h : H' l = Option.none) : H l = Option.none := by
  cases q : H l with
  | none => rfl
  | some o =>
    rw [e l o q] at h
    cases h
theorem Same.seq {K : PySem.W.Frag} {H H' : Hp} {a : Addr} {xs : List V} (e : Same H H') (h : SqL K H a xs) : SqL K H' a xs := by
  rcases h with (h | ⟨o, h⟩) | h
  · exact .inl (.inl (e _ _ h))
  · exact .inl (.inr ⟨o, e _ _ h⟩)
  · exact .inr h

end L2

set_option Elab.async false
set_option linter.all false
set_option maxRecDepth 100000
set_option maxHeartbeats 4000000
/-! Comprehensions over the hand layer. -/
namespace L2
open PySem PySem.Spec PyProof.Rows

/-! ### the cells that a block takes along -/
def closOf (names : List (Str × NameKind)) (cells : List (Str × Addr)) : List (Str × Addr) :=
  names.foldl (fun cs p => if p.2 == .free then (p.1, (cells.lookup p.1).getD 0) :: cs else cs) []
theorem clos_go {env : Env} : ∀ (names : List (Str × NameKind)) (cs : List (Str × Addr)), (∀ x ∈ names, x.2 = .free → ∃ c, env.cells.lookup x.1 = some c) →
    (forIn names cs (fun (x : Str × NameKind) (cs : List (Str × Addr)) => match x with | (name, kind) => if (kind == NameKind.free) = true then do let a ← cellOf env name; pure (ForInStep.yield ((name, a) :: cs)) else pure (ForInStep.yield cs)) : Sem (List (Str × Addr)))
      = pure (names.foldl (fun cs p => if p.2 == .free then (p.1, (env.cells.lookup p.1).getD 0) :: cs else cs) cs)
  | [], cs, _ => rfl
  | (n, k) :: r, cs, h => by
    rw [List.forIn_cons, List.foldl_cons]
    have ih := fun cs' => clos_go (env := env) r cs' fun x hx => h x (List.mem_cons_of_mem _ hx)
    cases hk : (k == NameKind.free) with
    | false =>
      simp only [hk, Bool.false_eq_true, if_false, pure_bind]
      exact ih cs
    | true =>
      obtain ⟨c, hc⟩ := h (n, k) List.mem_cons_self (by simpa using hk)
      have e : cellOf env n = pure c := by unfold cellOf; rw [hc]
      simp only [hk, if_true, e, pure_bind]
      rw [hc]
      exact ih _
theorem closureFor_of {scope : Scope} {env : Env} (h : ∀ x ∈ scope.names, x.2 = .free → ∃ c, env.cells.lookup x.1 = some c) : closureFor scope env = pure (closOf scope.names env.cells) := by
  unfold closureFor
  have := clos_go (env := env) scope.names [] h
  simp only [bind_pure]
  exact this
theorem clos_look {cells : List (Str × Addr)} {x : Str} {c : Addr} : ∀ (names : List (Str × NameKind)) (cs : List (Str × Addr)),
    (∀ y ∈ names, y.2 = .free → ∃ c, cells.lookup y.1 = some c) → (∀ c, cs.lookup x = some c → cells.lookup x = some c) →
    (names.foldl (fun cs p => if p.2 == .free then (p.1, (cells.lookup p.1).getD 0) :: cs else cs) cs).lookup x = some c → cells.lookup x = some c
  | [], cs, _, h2, h => h2 c h
  | (n, k) :: r, cs, h1, h2, h => by
    rw [List.foldl_cons] at h
    refine clos_look r _ (fun y hy => h1 y (List.mem_cons_of_mem _ hy)) (fun d hd => ?_) h
    cases hk : (k == NameKind.free) with
    | false =>
      simp only [hk, Bool.false_eq_true, if_false] at hd
      exact h2 d hd
    | true =>
      obtain ⟨e, he⟩ := h1 (n, k) List.mem_cons_self (by simpa using hk)
      simp only [hk, if_true, List.lookup_cons] at hd
      cases hx : x == n with
      | false => rw [hx] at hd; exact h2 d hd
      | true =>
        rw [hx] at hd
        have hxn : x = n := by simpa using hx
        subst hxn
        rw [he] at hd
        simp at hd
        rw [he, hd]
theorem closOf_look {names : List (Str × NameKind)} {cells : List (Str × Addr)} {x : Str} {c : Addr} (h1 : ∀ y ∈ names, y.2 = .free → ∃ c, cells.lookup y.1 = some c) (h : (closOf names cells).lookup x = some c) : cells.lookup x = some c :=
  clos_look names [] h1 (fun _ z => by simp at z) h
theorem clos_mem {cells : List (Str × Addr)} {x : Str} : ∀ (names : List (Str × NameKind)) (cs : List (Str × Addr)),
    ((x, NameKind.free) ∈ names ∨ ∃ c, cs.lookup x = some c) → ∃ c, (names.foldl (fun cs p => if p.2 == .free then (p.1, (cells.lookup p.1).getD 0) :: cs else cs) cs).lookup x = some c
  | [], cs, h => by
    rcases h with h | h
    · cases h
    · exact h
  | (n, k) :: r, cs, h => by
    rw [List.foldl_cons]
    refine clos_mem r _ ?_
    rcases h with h | ⟨c, h⟩
    · rcases List.mem_cons.mp h with h | h
      · right
        injection h with h1 h2
        subst h1 h2
        exact ⟨(cells.lookup x).getD 0, by simp [List.lookup_cons]⟩
      · exact .inl h
    · right
      cases hk : (k == NameKind.free) with
      | false => exact ⟨c, by simp only [hk, Bool.false_eq_true, if_false]; exact h⟩
      | true =>
        simp only [hk, if_true, List.lookup_cons]
        cases hx : x == n with
        | false => exact ⟨c, h⟩
        | true => exact ⟨_, rfl⟩
theorem lookup_mem {names : List (Str × NameKind)} {x : Str} {k : NameKind} (h : names.lookup x = some k) : (x, k) ∈ names := by
  induction names with
  | nil => simp at h
  | cons p r ih =>
    obtain ⟨n, l⟩ := p
    rw [List.lookup_cons] at h
    cases hx : x == n with
    | false => rw [hx] at h; exact List.mem_cons_of_mem _ (ih h)
    | true =>
      rw [hx] at h
      have hxn : x = n := by simpa using hx
      subst hxn
      cases h
      exact List.mem_cons_self
/-- the kind of a name in the block's own scope -/
theorem look_relabel {env : Env} : ∀ {names : List (Str × NameKind)} {x : Str} {k : NameKind},
    (names.map fun (n, k) => if (k == NameKind.free && env.scope.kind == .function && env.kindOf n == some .cell) then (n, NameKind.cell) else (n, k)).lookup x = some k →
      names.lookup x = some k ∨ (k = .cell ∧ names.lookup x = some .free)
  | [], _, _, h => by simp at h
  | (n, l) :: r, x, k, h => by
    have ih := @look_relabel env r x k
    rw [List.map_cons] at h
    by_cases hc : (l == NameKind.free && env.scope.kind == .function && env.kindOf n == some .cell) = true
    · simp only [hc, if_true] at h
      rw [List.lookup_cons] at h ⊢
      cases hx : x == n with
      | true =>
        rw [hx] at h
        cases h
        have hl : l = .free := by
          have := (Bool.and_eq_true_iff.mp (Bool.and_eq_true_iff.mp hc).1).1
          simpa using this
        subst hl
        exact .inr ⟨rfl, rfl⟩
      | false => rw [hx] at h; exact ih h
    · simp only [hc] at h
      simp only [Bool.false_eq_true, if_false] at h
      rw [List.lookup_cons] at h ⊢
      cases hx : x == n with
      | true => rw [hx] at h; exact .inl h
      | false => rw [hx] at h; exact ih h

/-! ### the block's own cells -/
theorem cf_look {x : Str} {c : Addr} : ∀ (names : List (Str × NameKind)) (n : Nat) (acc : List (Str × Addr)), (cellsFrom n names acc).lookup x = some c →
    (n ≤ c ∧ (x, NameKind.cell) ∈ names) ∨ (acc.lookup x = some c ∧ ∀ k, (x, k) ∈ names → k ≠ .cell)
  | [], n, acc, h => .inr ⟨h, fun _ z => nomatch z⟩
  | (y, k) :: r, n, acc, h => by
    unfold cellsFrom at h
    by_cases hk : (k == NameKind.cell) = true
    · rw [if_pos hk] at h
      have hk' : k = .cell := by simpa using hk
      subst hk'
      rcases cf_look r _ _ h with ⟨a, b⟩ | ⟨a, b⟩
      · exact .inl ⟨by omega, List.mem_cons_of_mem _ b⟩
      · rw [List.lookup_cons] at a
        cases hx : x == y with
        | true =>
          rw [hx] at a
          have e : n = c := by simpa using a
          have hxy : x = y := by simpa using hx
          subst hxy
          exact .inl ⟨by omega, List.mem_cons_self⟩
        | false =>
          rw [hx] at a
          refine .inr ⟨a, fun k' z => ?_⟩
          rcases List.mem_cons.mp z with z | z
          · injection z with z1 z2
            subst z1
            simp at hx
          · exact b k' z
    · rw [if_neg hk] at h
      rcases cf_look r _ _ h with ⟨a, b⟩ | ⟨a, b⟩
      · exact .inl ⟨a, List.mem_cons_of_mem _ b⟩
      · refine .inr ⟨a, fun k' z => ?_⟩
        rcases List.mem_cons.mp z with z | z
        · injection z with z1 z2
          subst z2
          intro e
          exact hk (by rw [e]; rfl)
        · exact b k' z
theorem cf_inj : ∀ (names : List (Str × NameKind)) (n : Nat) (acc : List (Str × Addr)), (∀ z d, acc.lookup z = some d → d < n) → (∀ x y c, acc.lookup x = some c → acc.lookup y = some c → x = y) →
    ∀ x y c, (cellsFrom n names acc).lookup x = some c → (cellsFrom n names acc).lookup y = some c → x = y
  | [], _, _, _, h => h
  | (y, k) :: r, n, acc, hb, hi => by
    unfold cellsFrom
    by_cases hk : (k == NameKind.cell) = true
    · rw [if_pos hk]
      refine cf_inj r _ _ (fun z d e => ?_) fun u v c e1 e2 => ?_
      · rw [List.lookup_cons] at e
        cases hx : z == y with
        | true => rw [hx] at e; have q : n = d := by simpa using e
                  rw [← q]; exact Nat.lt_succ_self n
        | false => rw [hx] at e; exact Nat.lt_succ_of_lt (hb z d e)
      · rw [List.lookup_cons] at e1 e2
        cases hx : u == y with
        | true =>
          rw [hx] at e1
          have q1 : n = c := by simpa using e1
          cases hy : v == y with
          | true => rw [(by simpa using hx : u = y), (by simpa using hy : v = y)]
          | false => rw [hy] at e2; exact absurd (hb v c e2) (by rw [← q1]; exact Nat.lt_irrefl _)
        | false =>
          rw [hx] at e1
          cases hy : v == y with
          | true => rw [hy] at e2; have q2 : n = c := by simpa using e2
                    exact absurd (hb u c e1) (by rw [← q2]; exact Nat.lt_irrefl _)
          | false => rw [hy] at e2; exact hi u v c e1 e2
    · rw [if_neg hk]
      exact cf_inj r _ _ hb hi
theorem cf_cell : ∀ (names : List (Str × NameKind)) (h : Heap) (acc : List (Str × Addr)), (∀ z d, acc.lookup z = some d → ∃ v, h.IsCell d v) →
    ∀ x c, (cellsFrom h.objs.size names acc).lookup x = some c → ∃ v, (pushCells h names).IsCell c v
  | [], _, _, h => h
  | (y, k) :: r, h, acc, hb => by
    unfold cellsFrom pushCells
    by_cases hk : (k == NameKind.cell) = true
    · rw [if_pos hk, if_pos hk]
      have := cf_cell r (h.push { cls := .type "cell", data := .cell none }) ((y, h.objs.size) :: acc) fun z d e => by
        rw [List.lookup_cons] at e
        cases hx : z == y with
        | true =>
          rw [hx] at e
          have q : h.objs.size = d := by simpa using e
          subst q
          exact ⟨none, _, Heap.get?_push_size _ rfl, rfl⟩
        | false =>
          rw [hx] at e
          obtain ⟨v, q⟩ := hb z d e
          exact ⟨v, q.keeps fun b o e => Heap.get?_push_of_some _ e⟩
      rwa [Heap.size_push] at this
    · rw [if_neg hk, if_neg hk]
      exact cf_cell r h acc hb
theorem newEnvC {M : Model} {A : Around} {E : Value → Shared → Prop} {s : Shared} {scope : Scope} {globals : Addr} {cl : List (Str × Addr)} {qual : Str} {env : Env} {Q : Env → Shared → Prop}
    (h : Q { scope := scope, locals := s.heap.objs.size, globals := globals, cells := cellsFrom (s.heap.objs.size + 1) scope.names cl, qual := qual, func := none, code := env.code, frame := env.frame, builtins := env.builtins }
      { s with heap := pushCells (s.heap.push { cls := .type "dict", data := .dict #[] }) scope.names }) : wpAny M A (newFunctionEnv scope globals cl [] qual none .none (some env)) Q E s := by
  simp only [newFunctionEnv, Option.isSome_some, if_true]
  refine wpAny_bind (wpAny_alloc ?_)
  refine wpAny_bind (wpAny_layCells _ (fun name kind cells => by cases hkc : kind == NameKind.cell <;> simp [hkc]) _ _ _ _ ?_)
  rw [show ({ s with heap := s.heap.push { cls := .type "dict", data := .dict #[] } } : Shared).heap.objs.size = s.heap.objs.size + 1 from Heap.size_push ..]
  exact wpAny_bind (wpAny_pure (wpAny_pure h))

/-- the context of a comprehension's block -/
def cxC (X : Cx) (scope : Scope) (N : List Str) (pins : List (Addr × Obj)) (fp : List Addr) (s : Shared) (H : Hp) : Cx where
  prog := X.prog
  w := X.w
  K := X.K
  mg := X.mg
  base := X.base
  A := X.A
  N := N
  s₀ := s
  H₀ := H
  env := compEnvC scope (cellsFrom (s.heap.objs.size + 1) scope.names (closOf scope.names X.env.cells)) s.heap.objs.size X.env
  outer := X.stack
  stack := X.stack
  ex := fp
  fn := fun x => scope.names.lookup x == some .cell
  calm := X.calm
  pn := X.pn ++ pins
  xe := fun _ _ => False

/-- the scope of a block: own names first (k of them), then the ones that it takes along (their places in X.N) -/
structure CScope (X : Cx) (scope : Scope) (N : List Str) (k : Nat) (fr : List Nat) : Prop where
  kind : scope.kind = .function
  owned : (scope.names.all fun y => y.2 != .cell || scope.names.lookup y.1 == some .cell) = true
  names : (scope.names.all fun y => y.2 != .local || scope.names.lookup y.1 == some .local) = true
  free : (scope.names.all fun y => y.2 != .free || (X.env.kindOf y.1 == some .cell || X.env.kindOf y.1 == some .free)) = true
  len : N.length = k + fr.length
  at_ : ((List.range fr.length).all fun i => match N[k + i]?, fr[i]? with | some x, some j => X.N[j]? == some x && scope.names.lookup x == some .free | _, _ => false) = true

section
variable {X : Cx} {scope : Scope} {N : List Str} {k : Nat} {fr : List Nat}
theorem CScope.frees (S : CScope X scope N k fr) : ∀ y ∈ scope.names, y.2 = .free → X.env.kindOf y.1 = some .cell ∨ X.env.kindOf y.1 = some .free := fun y hy e => by
  have h := List.all_eq_true.mp S.free y hy
  simp only [e] at h
  simpa using h
theorem CScope.cells (S : CScope X scope N k fr) (ok : X.Ok) : ∀ y ∈ scope.names, y.2 = .free → ∃ c, X.env.cells.lookup y.1 = some c := fun y hy e => ok.has y.1 (S.frees y hy e)
theorem CScope.locals (S : CScope X scope N k fr) : ∀ y ∈ scope.names, y.2 = .local → scope.names.lookup y.1 = some .local := fun y hy e => by
  have h := List.all_eq_true.mp S.names y hy
  simp only [e] at h
  simpa using h
theorem CScope.own (S : CScope X scope N k fr) {x : Str} (h : (x, NameKind.cell) ∈ scope.names) : scope.names.lookup x = some .cell := by
  have h := List.all_eq_true.mp S.owned _ h
  simpa using h
/-- a cell of the block is its own, or one of the frame around -/
theorem CScope.look (S : CScope X scope N k fr) (ok : X.Ok) {n : Nat} {x : Str} {c : Addr} (h : (cellsFrom n scope.names (closOf scope.names X.env.cells)).lookup x = some c) :
    (n ≤ c ∧ scope.names.lookup x = some .cell) ∨ (X.env.cells.lookup x = some c ∧ scope.names.lookup x ≠ some .cell) := by
  rcases cf_look _ _ _ h with ⟨a, b⟩ | ⟨a, b⟩
  · exact .inl ⟨a, S.own b⟩
  · exact .inr ⟨closOf_look (S.cells ok) a, fun z => b _ (lookup_mem z) rfl⟩
/-- the values at the block's entry -/
def startC (k : Nat) (fr : List Nat) (σ : St) : St := List.replicate k none ++ fr.map fun j => (σ[j]?).getD none
variable {pins : List (Addr × Obj)} {σ : St} {H : Hp} {s : Shared} {fp : List Addr}
theorem okC (S : CScope X scope N k fr) (I : Inv X pins σ H s) (hf : ∀ b ∈ fp, FpOk X pins H b) (hlt : ∀ b ∈ fp, b < s.heap.objs.size) : (cxC X scope N pins fp s H).Ok where
  mod := I.ok.mod
  kind := S.kind
  glob := I.ok.glob
  blt := I.ok.blt
  above := Nat.le_refl _
  inj := cf_inj _ _ _ (fun z d e => by
      obtain ⟨v, q⟩ := I.cell z d (closOf_look (S.cells I.ok) e)
      exact Nat.lt_succ_of_lt q.lt) fun x y c hx hy => I.ok.inj x y c (closOf_look (S.cells I.ok) hx) (closOf_look (S.cells I.ok) hy)
  has := fun x hx => by
    have hx' : (relabel scope X.env).names.lookup x = some .cell ∨ (relabel scope X.env).names.lookup x = some .free := hx
    have key : scope.names.lookup x = some .cell ∨ scope.names.lookup x = some .free := by
      rcases hx' with h | h
      · rcases look_relabel h with h | h
        · exact .inl h
        · exact .inr h.2
      · rcases look_relabel h with h | h
        · exact .inr h
        · exact .inr h.2
    refine Option.isSome_iff_exists.mp (PySem.W.cellsFrom_some scope.names _ _ (key.imp id fun e => ?_))
    obtain ⟨c, hc⟩ := clos_mem (cells := X.env.cells) scope.names [] (.inl (lookup_mem e))
    exact Option.isSome_iff_exists.mpr ⟨c, hc⟩
  cab := fun x c h hc => by
    have h' : scope.names.lookup x = some .cell := by
      have h2 : (scope.names.lookup x == some .cell) = true := h
      simpa using h2
    rcases S.look I.ok hc with ⟨a, _⟩ | ⟨_, b⟩
    · exact Nat.le_trans (Nat.le_succ _) a
    · exact absurd h' b
  hd := I.ok.hd
  frames := I.ok.frames
  stk := .inl rfl
  exf := fun b hb => ⟨Nat.ne_of_lt (hlt b hb), fun x c hc => by
    rcases S.look I.ok hc with ⟨a, _⟩ | ⟨a, _⟩
    · intro z
      exact Nat.lt_irrefl _ (Nat.lt_of_lt_of_le (hlt b hb) (z ▸ Nat.le_trans (Nat.le_succ _) a))
    · exact (hf b hb).2.2.2.2.1 x c a⟩
  bs := I.bs
  bsz := Nat.le_trans I.ok.bsz I.sz
  noex := fun b o e hb => by
    rcases (hf b hb).2.2.2.1 with z | z
    · exact I.ok.noex b o e z
    · exact absurd (Nat.lt_of_lt_of_le (Heap.lt_size e) (Nat.le_trans I.ok.bsz z)) (Nat.lt_irrefl _)
  exfs := fun b hb hs => by
    rcases List.mem_cons.mp (I.stkSub b hs) with e | e
    · exact (hf b hb).2.1 e
    · exact (hf b hb).2.2.1 e
  funs := I.stack
  frf := I.stkFree
theorem invC {h1 : Heap} {t1 : Nat} {m : Str → Option Value} (S : CScope X scope N k fr) (I : Inv X pins σ H s) (hf : ∀ b ∈ fp, FpOk X pins H b) (hlt : ∀ b ∈ fp, b < s.heap.objs.size)
    (hns : h1.Ns s.heap.objs.size m) (hkeep : ∀ b o, s.heap.get? b = some o → h1.get? b = some o)
    (hcl : ∀ x c, (cellsFrom (s.heap.objs.size + 1) scope.names (closOf scope.names X.env.cells)).lookup x = some c → ∃ v, h1.IsCell c v) : Inv (cxC X scope N pins fp s H) [] (startC k fr σ) H { s with heap := h1, toks := t1 } where
  ok := okC S I hf hlt
  os := rfl
  bare := I.bare
  base := Un.kept hkeep
  loc := by
    refine ⟨m, hns, fun i x v e1 e2 e3 => ?_⟩
    have hk : k ≤ i := by
      by_cases z : i < k
      · unfold startC at e2
        rw [List.getElem?_append_left (by simpa using z)] at e2
        simp [z] at e2
      · omega
    obtain ⟨j, rfl⟩ : ∃ j, i = k + j := ⟨i - k, by omega⟩
    unfold startC at e2
    rw [List.getElem?_append_right (by simp)] at e2
    simp only [List.length_replicate, Nat.add_sub_cancel_left, List.getElem?_map] at e2
    have hj : j < fr.length := by
      cases q : fr[j]? with
      | none => rw [q] at e2; cases e2
      | some _ => exact (List.getElem?_eq_some_iff.mp q).1
    have ha := List.all_eq_true.mp S.at_ j (by simpa using hj)
    have e1' : N[k + j]? = some x := e1
    cases q : fr[j]? with
    | none => rw [q] at e2; cases e2
    | some p =>
      rw [q] at e2
      simp only [e1', q] at ha
      obtain ⟨a1, a2⟩ := Bool.and_eq_true_iff.mp ha
      have a1' : X.N[p]? = some x := by simpa using a1
      have a2' : scope.names.lookup x = some .free := by simpa using a2
      have e2' : (σ[p]?).getD none = some v := by simpa using e2
      have e2'' : σ[p]? = some (some v) := by
        cases z : σ[p]? with
        | none => rw [z] at e2'; cases e2'
        | some y => rw [z] at e2'; simpa using e2'
      have hfr := S.frees (x, .free) (lookup_mem a2') rfl
      obtain ⟨m0, hn0, hl0⟩ := I.loc
      have hvis : Vis X.env.scope x := by
        rcases hfr with z | z
        · exact .inr (.inl z)
        · exact .inr (.inr z)
      obtain ⟨u, r, l⟩ := hl0 p x v a1' e2'' hvis
      refine ⟨u, r, .inr ⟨?_, ?_⟩⟩
      · show (relabel scope X.env).names.lookup x = some .cell ∨ (relabel scope X.env).names.lookup x = some .free
        rcases e3 with z | z | z
        · rcases look_relabel z with z | z
          · rw [a2'] at z; cases z
          · cases z.1
        · exact .inl z
        · exact .inr z
      · have hc : ∃ c, X.env.cells.lookup x = some c ∧ s.heap.IsCell c (some u) := by
          rcases l with ⟨z, _⟩ | ⟨_, c, hc, hv⟩
          · rcases hfr with y | y
            · have y' : X.env.kindOf x = some .cell := y
              rw [y'] at z; cases z
            · have y' : X.env.kindOf x = some .free := y
              rw [y'] at z; cases z
          · exact ⟨c, hc, hv⟩
        obtain ⟨c, hc, o, ho, hd⟩ := hc
        obtain ⟨c1, hc1⟩ := clos_mem (cells := X.env.cells) scope.names [] (.inl (lookup_mem a2'))
        obtain ⟨c', hc'⟩ := Option.isSome_iff_exists.mp (PySem.W.cellsFrom_some scope.names (s.heap.objs.size + 1) (closOf scope.names X.env.cells) (.inr (Option.isSome_iff_exists.mpr ⟨c1, hc1⟩)))
        have hcc : X.env.cells.lookup x = some c' := by
          rcases S.look I.ok hc' with ⟨_, b⟩ | ⟨b, _⟩
          · rw [a2'] at b; cases b
          · exact b
        rw [hc] at hcc
        cases hcc
        exact ⟨c, hc', o, hkeep c o ho, hd⟩
  cell := hcl
  free := I.hok.fresh (Nat.le_refl _)
  freeC := fun x c hc => by
    rcases S.look I.ok hc with ⟨a, _⟩ | ⟨a, _⟩
    · exact I.hok.fresh (Nat.le_trans (Nat.le_succ _) a)
    · exact I.freeC x c a
  pin := fun p hp => by
    have hp' : p ∈ X.pn ++ pins := by
      have hp2 : p ∈ (X.pn ++ pins) ++ [] := hp
      simpa using hp2
    obtain ⟨e, n, ne, nf, d⟩ := I.pin p hp'
    refine ⟨hkeep _ _ e, n, Nat.ne_of_lt (Heap.lt_size e), fun z => ?_, d⟩
    rcases List.mem_cons.mp (I.stkSub p.1 z) with q | q
    · exact ne q
    · exact nf q
  hok := I.hok.kept hkeep
  len := by
    have := S.len
    show (startC k fr σ).length = N.length
    unfold startC
    simp [this]
/-- behind the block -/
theorem outC {σ' : St} {H' : Hp} {s' : Shared} {h' : Heap} {pins' : List (Addr × Obj)} (I : Inv X pins σ H s) (hf : ∀ b ∈ fp, FpOk X pins H b) (I' : Inv (cxC X scope N pins fp s H) pins' σ' H' s') (sb : Heap.SameBut s.heap.objs.size s'.heap h') :
    Inv X pins σ H' { s' with heap := h' } := by
  have fr' : H' s.heap.objs.size = none := I'.free
  refine I.call' (s' := { s' with heap := h' }) (ch := fp) I'.os ⟨fun b o e n hb hx => ?_, fun b o e n hb hx => ?_, I'.base.free, fun b o e hx => ?_, I'.base.tups, I'.base.frzs, I'.base.tbls⟩ ?_ I'.bare (fun b hb => ⟨(hf b hb).2.2.2.1, (hf b hb).2.1, (hf b hb).2.2.2.2.1, (hf b hb).2.2.2.2.2⟩)
  · exact (sb.2 b (Nat.ne_of_lt (Heap.lt_size e))).trans (I'.base.keep b o e n hb hx)
  · obtain ⟨sl, q⟩ := I'.base.slot b o e n hb hx
    exact ⟨sl, (sb.2 b (Nat.ne_of_lt (Heap.lt_size e))).trans q⟩
  · obtain ⟨o', q⟩ := I'.base.there b o e hx
    exact ⟨o', (sb.2 b (Nat.ne_of_lt (Heap.lt_size e))).trans q⟩
  · intro b u e
    refine (I'.hok b u e).stay (fun c v hc q => (sb.2 c ?_).trans q) (fun _ q => q) fun _ _ q => q
    rintro rfl
    rcases hc with rfl | hc
    · rw [fr'] at e; cases e
    · rw [fr'] at hc; cases hc
end

/-! ### the tests of a clause -/
def PTs (X : Cx) (ifs : List Expr) (t : TT) : Prop :=
  ∀ (pins : List (Addr × Obj)) (s : Shared) (σ : St) (H : Hp) (Q : Bool → Hp → Prop), Inv X pins σ H s → t σ H Q →
    wpAny (model X.prog X.w) X.A (forIn ifs true fun c r => if r = true then do let ok ← isTrue c X.env (eval c X.env); pure (ForInStep.yield ok) else pure (ForInStep.yield r)) (TP X pins σ Q) X.xe s
def tYes : TT := fun _ H Q => Q true H
theorem pts_nil {X : Cx} : PTs X [] tYes := fun _ _ _ H _ I h => wpAny_tests_nil ⟨H, I, h⟩
theorem pts_one {X : Cx} {c : Expr} {t : TT} (h : PT X c t) : PTs X [c] t := fun pins s σ H Q I hw => wpAny_tests_one (h pins s σ H Q I hw)

/-- the loop of a comprehension, with whatever the step ahead of the store does -/
theorem compLoop_any {prog : Program} {w : World} {A : Around} {R : Result → Shared → Prop} {s : Shared} {elt target iter : Expr} {ifs : List Expr} {scope : Scope} {pos : Pos} {it acc : Value} {env : Env} (I : Nat → Shared → Prop)
    (turn : ∀ n s, I n s → wpAny (model prog w) A (pyNext it) (fun r s₁ => match r with
      | none => R (.ok .next) s₁
      | some v => wpAny (model prog w) A (letOwnedTupleGo target it v) (fun _ s₁' => wpAny (model prog w) A (assign target env v) (fun _ s₂ =>
          wpAny (model prog w) A (forIn ifs true fun c r => if r = true then do let ok ← isTrue c env (eval c env); pure (ForInStep.yield ok) else pure (ForInStep.yield r)) (fun ok s₃ =>
            if ok = true then wpAny (model prog w) A (eval elt env) (fun x s₄ =>
              wpAny (model prog w) A (call (.builtin "list.append") [acc, x]) (fun _ s₅ => ∃ m, m < n ∧ I m s₅) (fun _ _ => False) s₄) (fun _ _ => False) s₃
            else ∃ m, m < n ∧ I m s₃) (fun _ _ => False) s₂) (fun _ _ => False) s₁') (fun _ _ => False) s₁) (fun _ _ => False) s)
    (n : Nat) (h : I n s) :
    codeAny (model prog w) A (.compLoop (.ListComp elt [⟨target, iter, ifs, 0⟩] scope pos) 0 it acc env) R s := by
  refine codeAny_loop rfl I (fun n s hI => ?_) n h
  show wpAny _ A ((compTurn (.ListComp elt [⟨target, iter, ifs, 0⟩] scope pos) 0 it acc env).onRaise (fun x => do noteFrame x env; theTreesLotGoes x)) _ _ s
  refine wpAny_noted ?_
  rw [compTurn_list]
  refine wpAny_bind (wpAny_standAt (wpAny_bind (wpAny_mono (turn n s hI) (fun r s₁ h₁ => ?_) fun _ _ h' => h'.elim)))
  cases r with
  | none => exact wpAny_pure h₁
  | some v =>
    refine wpAny_bind (wpAny_mono h₁ (fun _ s₁' h₁' => ?_) fun _ _ h' => h'.elim)
    refine wpAny_bind (wpAny_mono h₁' (fun _ s₂ h₂ => wpAny_bind (wpAny_mono h₂ (fun ok s₃ h₃ => ?_) fun _ _ h' => h'.elim)) fun _ _ h' => h'.elim)
    cases ok with
    | false =>
      simp only [Bool.false_eq_true, if_false] at h₃ ⊢
      exact wpAny_bind (wpAny_pure (wpAny_pure ⟨rfl, h₃⟩))
    | true =>
      simp only [if_true] at h₃ ⊢
      refine wpAny_bind (wpAny_bind (wpAny_mono h₃ (fun x s₄ h₄ => wpAny_bind (wpAny_mono h₄ (fun _ s₅ h₅ => wpAny_pure (wpAny_pure ⟨rfl, h₅⟩)) fun _ _ h' => h'.elim)) fun _ _ h' => h'.elim))

/-- the reading of a comprehension: D is the new list; W: the word by the turn, a measure and the items so far -/
def rdComp (k : Nat) (fr : List Nat) (g : TG) (tc : TT) (te : TE) (σ : St) (J : It) (H1 : Hp) (Q : VK) : Prop :=
  ∀ D, H1 D = none → ∃ W : Nat → Nat → List V → St → Hp → Prop, (∃ m, W 0 m [] (startC k fr σ) (upd H1 D (.lst []))) ∧
    ∀ i m ys σ' H', W i m ys σ' H' → H' D = some (.lst ys) ∧
      ((J.stop i H' ∧ Q (.ref D) H') ∨
       (J.go i H' ∧ ∃ m', m' < m ∧ ∀ x H2, J.yld i H' x H2 → g x σ' H2 fun σ2 H3 => tc σ2 H3 fun b H4 =>
          if b = true then te σ2 H4 fun v H5 => H5 D = some (.lst ys) ∧ ys.length < sizeLine ∧ W (i + 1) m' (ys ++ [v]) σ2 (upd H5 D (.lst (ys ++ [v])))
          else W (i + 1) m' ys σ2 H4))
def tComp (k : Nat) (fr : List Nat) (wi : TI) (g : TG) (tc : TT) (te : TE) : TE := fun σ H Q => wi σ H fun J H1 => rdComp k fr g tc te σ J H1 Q

section
variable {X : Cx} {scope : Scope} {N : List Str} {k : Nat} {fr : List Nat} {tg iter elt : Expr} {ifs : List Expr} {wi : TI} {g : TG} {tc : TT} {te : TE} {pos : Pos}
/-- the block, from the iterator on; RR: what is wanted of the result -/
theorem blockC {pins : List (Addr × Obj)} {σ : St} {H : Hp} {s : Shared} {it : Addr} {fp : List Addr} {tn : Nat → Heap → Prop} {J : It} {Q : VK} {RR : Value → Addr → Result → Shared → Prop} {E : Value → Shared → Prop}
    (hc : X.calm = true) (S : CScope X scope N k fr) (hg : ∀ pins fp s H, PG (cxC X scope N pins fp s H) tg g) (ht : ∀ pins fp s H, PTs (cxC X scope N pins fp s H) ifs tc) (he : ∀ pins fp s H, PE (cxC X scope N pins fp s H) elt te)
    (I : Inv X pins σ H s) (T : Turn X.prog X.w X.K tg J fp it tn) (st : tn 0 s.heap) (hf : ∀ b ∈ fp, FpOk X pins H b) (h : rdComp k fr g tc te σ J H Q)
    (hR : ∀ D C s' (H' : Hp), Q (.ref D) H' → FpOk X pins H' C → (∃ m, s'.heap.Ns C m) → (∀ h', Heap.SameBut C s'.heap h' → Inv X pins σ H' { s' with heap := h' }) → RR (.ref D) C (.ok .next) s') :
    wpAny (model X.prog X.w) X.A (newList []) (fun acc s₃ => wpAny (model X.prog X.w) X.A (newFunctionEnv scope X.env.globals (closOf scope.names X.env.cells) [] X.env.qual none .none (some X.env)) (fun cenv s₄ =>
      codeAny (model X.prog X.w) X.A (.compStart (.ListComp elt [⟨tg, iter, ifs, 0⟩] scope pos) 0 (.ref it) acc { cenv with scope := relabel scope X.env }) (RR acc cenv.locals) s₄) E s₃) E s := by
  refine wpAny_newObj_type (newEnvC ?_)
  dsimp only
  have I3 : Inv X pins σ (upd H s.heap.objs.size (.lst [])) { s with heap := s.heap.push { cls := .type "list", dict := none, data := .seq ([] : List Value).toArray } } :=
    I.laid (t' := s.toks) (fun b u e => Heap.get?_push_of_some _ e) (Nat.le_refl _) ⟨by simp, [], _, .nil, Heap.get?_push_size _ rfl⟩
  generalize hS3 : ({ s with heap := s.heap.push { cls := .type "list", dict := none, data := .seq ([] : List Value).toArray } } : Shared) = s3 at I3
  have e3 : s.heap.push { cls := .type "list", dict := none, data := .seq ([] : List Value).toArray } = s3.heap := by rw [← hS3]
  rw [e3]
  generalize hD : s.heap.objs.size = D at I3 ⊢
  have hDn : H D = none := I.hok.fresh (by omega)
  obtain ⟨W, ⟨m0, w0⟩, turn⟩ := h D hDn
  have hfD : ∀ b ∈ fp, b ≠ D := fun b hb z => by
    obtain ⟨o, e, _⟩ := T.obj 0 _ st b hb
    exact absurd (Heap.lt_size e) (by rw [z, ← hD]; exact Nat.lt_irrefl _)
  have hf3 : ∀ b ∈ fp, FpOk X pins (upd H D (.lst [])) b := fun b hb => ⟨by rw [upd_ne (hfD b hb)]; exact (hf b hb).1, (hf b hb).2⟩
  have up3 : ∀ b o, s.heap.get? b = some o → s3.heap.get? b = some o := fun b o e => by rw [← e3]; exact Heap.get?_push_of_some _ e
  have hlt : ∀ b ∈ fp, b < s3.heap.objs.size := fun b hb => by
    obtain ⟨o, e, _⟩ := T.obj 0 _ st b hb
    exact Heap.lt_size (up3 b o e)
  have keep0 : ∀ b o, s3.heap.get? b = some o → (pushCells (s3.heap.push { cls := .type "dict", data := .dict #[] }) scope.names).get? b = some o := fun b o e => pushCells_keeps _ _ b o (Heap.get?_push_of_some _ e)
  have ns0 := (Heap.Ns.new s3.heap (.type "dict")).keeps (pushCells_keeps scope.names _)
  have cl0 : ∀ x c, (cellsFrom (s3.heap.objs.size + 1) scope.names (closOf scope.names X.env.cells)).lookup x = some c → ∃ v, (pushCells (s3.heap.push { cls := .type "dict", data := .dict #[] }) scope.names).IsCell c v := by
    have q := cf_cell scope.names (s3.heap.push { cls := .type "dict", data := .dict #[] }) (closOf scope.names X.env.cells) fun z d e => by
      obtain ⟨v, q⟩ := I3.cell z d (closOf_look (S.cells I.ok) e)
      exact ⟨v, q.keeps fun b o e => Heap.get?_push_of_some _ e⟩
    rwa [Heap.size_push] at q
  generalize hh₁ : pushCells (s3.heap.push { cls := .type "dict", data := .dict #[] }) scope.names = h₁ at keep0 ns0 cl0 ⊢
  have keep : ∀ b o, s3.heap.get? b = some o → h₁.get? b = some o := keep0
  have hns₁ := ns0
  have st1 : tn 0 h₁ := T.keep 0 _ _ st fun b hb o e => keep b o (up3 b o e)
  have eos : ({ s with heap := h₁, toks := s.toks } : Shared) = { s3 with heap := h₁, toks := s.toks } := by rw [← hS3]
  have IC : Inv (cxC X scope N pins fp s3 (upd H D (.lst []))) [] (startC k fr σ) (upd H D (.lst [])) { s3 with heap := h₁, toks := s.toks } := invC S I3 hf3 hlt hns₁ keep cl0
  rw [← eos] at IC
  -- what stays true of the iterator's records
  have statC : ∀ {H' : Hp}, (∀ b ∈ fp, H' b = none) → ∀ b ∈ fp, FpOk (cxC X scope N pins fp s3 (upd H D (.lst []))) [] H' b := fun hn b hb =>
    ⟨hn b hb, Nat.ne_of_lt (hlt b hb), fun z => by
      rcases List.mem_cons.mp (I3.stkSub b z) with q | q
      · exact (hf b hb).2.1 q
      · exact (hf b hb).2.2.1 q, .inl hb, fun x c hcx => by
      rcases S.look I.ok hcx with ⟨a, _⟩ | ⟨a, _⟩
      · intro z
        exact Nat.lt_irrefl _ (Nat.lt_of_lt_of_le (hlt b hb) (z ▸ Nat.le_trans (Nat.le_succ _) a))
      · exact (hf b hb).2.2.2.2.1 x c a, fun p hp => by
      have hp' : p ∈ X.pn ++ pins := by
        have hp2 : p ∈ (X.pn ++ pins) ++ [] := hp
        simpa using hp2
      exact (hf b hb).2.2.2.2.2 p hp'⟩
  have loop : ∀ s4 : Shared, Inv (cxC X scope N pins fp s3 (upd H D (.lst []))) [] (startC k fr σ) (upd H D (.lst [])) s4 → tn 0 s4.heap →
      codeAny (model X.prog X.w) X.A (.compLoop (.ListComp elt [⟨tg, iter, ifs, 0⟩] scope pos) 0 (.ref it) (.ref D) (cxC X scope N pins fp s3 (upd H D (.lst []))).env) (RR (.ref D) s3.heap.objs.size) s4 := by
    intro s4 I4 st4
    refine compLoop_any (fun n s' => ∃ i ys σ' H', Inv (cxC X scope N pins fp s3 (upd H D (.lst []))) [] σ' H' s' ∧ tn i s'.heap ∧ (∀ b ∈ fp, H' b = none) ∧ W i n ys σ' H') ?_ m0 ⟨0, [], _, _, I4, st4, fun b hb => (hf3 b hb).1, w0⟩
    rintro n s5 ⟨i, ys, σ5, H5, I5, st5, fr5, w5⟩
    obtain ⟨hD5, hcase⟩ := turn i n ys σ5 H5 w5
    rcases hcase with ⟨stop, q⟩ | ⟨go, m', hm, step⟩
    · refine thn (T.done (cxC X scope N pins fp s3 (upd H D (.lst []))) rfl rfl rfl hc i [] s5 σ5 H5 _ I5 (statC fr5) st5 stop) fun r s6 ⟨hr, I6⟩ => ?_
      subst hr
      obtain ⟨m6, hn6, _⟩ := I6.loc
      exact hR D _ s6 H5 q (I3.fpOk (Nat.le_refl _) I6.free) ⟨m6, hn6⟩ fun h' sb => outC I3 hf3 I6 sb
    · refine thn (T.item (cxC X scope N pins fp s3 (upd H D (.lst []))) rfl rfl rfl hc i [] s5 σ5 H5 _ I5 (statC fr5) st5 go) fun r s6 ⟨u, hr, h6⟩ => ?_
      subst hr
      refine thn h6 fun _ s7 ⟨x, H7, I7, r7, y7, st7, fr7⟩ => ?_
      have I7' := I7.pinned (statC fr7) (T.obj _ _ st7)
      refine thn (hg pins fp s3 _ _ s7 σ5 H7 x u _ I7' r7 (step x H7 y7)) fun _ s8 ⟨σ8, H8, I8, q8⟩ => ?_
      refine thn (ht pins fp s3 _ _ s8 σ8 H8 _ I8 q8) fun b s9 ⟨H9, I9, q9⟩ => ?_
      have again : ∀ {H' : Hp} {s' : Shared}, Inv (cxC X scope N pins fp s3 (upd H D (.lst []))) ([] ++ pinsAt fp s7.heap) σ8 H' s' → tn (i + 1) s'.heap ∧ (∀ b ∈ fp, H' b = none) := fun {H' s'} I' => by
        refine ⟨T.keep _ _ _ st7 fun b hb o e => (I'.pin (b, o) (List.mem_append_right _ (List.mem_append_right _ (mem_pinsAt hb e)))).1, fun b hb => ?_⟩
        obtain ⟨o, e, d⟩ := T.obj _ _ st7 b hb
        exact (I'.pin (b, o) (List.mem_append_right _ (List.mem_append_right _ (mem_pinsAt hb e)))).2.1
      cases b with
      | false =>
        simp only [Bool.false_eq_true, if_false] at q9 ⊢
        obtain ⟨a1, a2⟩ := again I9
        exact ⟨m', hm, i + 1, ys, σ8, H9, I9.unpinned, a1, a2, q9⟩
      | true =>
        simp only [if_true] at q9 ⊢
        refine thn (he pins fp s3 _ _ s9 σ8 H9 _ I9 q9) fun y s10 ⟨v, H10, I10, r10, hD10, hl10, q10⟩ => ?_
        refine thn (mt_append (X := cxC X scope N pins fp s3 (upd H D (.lst []))) _ s10 σ8 H10 (.ref D) [v] (.ref D) [y] (fun z H' => z = .non ∧ H' = upd H10 D (.lst (ys ++ [v]))) I10 rfl (.cons r10 .nil) ⟨D, ys, v, rfl, rfl, hD10, hl10, rfl, rfl⟩) fun z s11 ⟨v11, H11, I11, _, _, e11⟩ => ?_
        subst e11
        obtain ⟨a1, a2⟩ := again I11
        exact ⟨m', hm, i + 1, ys ++ [v], σ8, _, I11.unpinned, a1, a2, q10⟩
  exact codeAny_compStart_list (loop _ IC st1) (T.self X.A 0 _ _ _ st1 (loop _ IC st1))
/-- [elt for tg in iter if ..] -/
theorem pe_comp (hc : X.calm = true) (S : CScope X scope N k fr) (hi : PI X tg iter wi) (hg : ∀ pins fp s H, PG (cxC X scope N pins fp s H) tg g) (ht : ∀ pins fp s H, PTs (cxC X scope N pins fp s H) ifs tc)
    (he : ∀ pins fp s H, PE (cxC X scope N pins fp s H) elt te) (hs : ∀ x, foldedSetIterable iter X.env x = pure x := by intro _; rfl) : PE X (.ListComp elt [⟨tg, iter, ifs, 0⟩] scope pos) (tComp k fr wi g tc te) := by
  intro pins s σ H Q I h
  rw [eval_ListComp]
  refine wpAny_comprehension_free (use := none) rfl hs (closureFor_of (S.cells I.ok)) S.kind S.locals (thn (hi pins s σ H _ I h) fun v s1 h1 => thn h1 fun itv s2 h2 => ?_)
  obtain ⟨it, fp, tn, J, H2, e, I2, T, st2, f2, q⟩ := h2
  subst e
  refine blockC (RR := fun acc C => compPost (model X.prog X.w) X.A X.xe none (EP X pins σ Q) acc C) hc S hg ht he I2 T st2 f2 q ?_
  intro D C s' H' q' _ hn inv
  obtain ⟨m, hn⟩ := hn
  exact ⟨m, hn, fun h' sb => ⟨.ref D, H', inv h' sb, rfl, q'⟩⟩
/-- x = [elt for tg in iter if ..], x a plain local name: the store stands ahead of the block's end -/
theorem ps_setComp {i : Nat} {x : Str} {pos' spos : Pos} (hc : X.calm = true) (S : CScope X scope N k fr) (hi : PI X tg iter wi) (hg : ∀ pins fp s H, PG (cxC X scope N pins fp s H) tg g) (ht : ∀ pins fp s H, PTs (cxC X scope N pins fp s H) ifs tc)
    (he : ∀ pins fp s H, PE (cxC X scope N pins fp s H) elt te) (hN : X.N.Nodup) (hix : X.N[i]? = some x) (hx : X.env.scope.names.lookup x = some .local)
    (hsw : swapsWith (.ListComp elt [⟨tg, iter, ifs, 0⟩] scope pos) (some (.Name x pos')) spos.line X.env = pure true := by rfl)
    (hs : ∀ x, foldedSetIterable iter X.env x = pure x := by intro _; rfl) : PS X (.Assign [.Name x pos'] (.ListComp elt [⟨tg, iter, ifs, 0⟩] scope pos) spos) (tAsg (tComp k fr wi g tc te) (gName i)) := by
  intro pins s σ H D I h
  rw [exec_Assign_Name_used _ _ _ _ hsw]
  refine wpAny_bind (wpAny_standAt (wpAny_bind ?_))
  show wpAny _ X.A (do let _ ← comprehension (.ListComp elt [⟨tg, iter, ifs, 0⟩] scope pos) scope X.env _ (newList []) false (eval iter X.env) (some (assign (.Name x pos') X.env))) _ _ s
  refine wpAny_bind (wpAny_mono (wpAny_comprehension_free (use := some (assign (.Name x pos') X.env)) (Q := fun _ s' => SP X pins D .next s') rfl hs (closureFor_of (S.cells I.ok)) S.kind S.locals
    (thn (hi pins s σ H _ I h) fun v s1 h1 => thn h1 fun itv s2 h2 => ?_)) (fun _ s' hq => wpAny_pure (wpAny_pure hq)) fun _ _ e => e)
  obtain ⟨it, fp, tn, J, H2, e, I2, T, st2, f2, q⟩ := h2
  subst e
  refine blockC (RR := fun acc C => compPost (model X.prog X.w) X.A X.xe (some (assign (.Name x pos') X.env)) (fun _ s' => SP X pins D .next s') acc C) hc S hg ht he I2 T st2 f2 q ?_
  intro L C s' H' q' fC hn inv
  obtain ⟨m, hn⟩ := hn
  show wpAny _ X.A (assign (.Name x pos') X.env (.ref L)) _ _ _
  have I3 : Inv X pins σ H' s' := inv s'.heap (.refl ..)
  obtain ⟨f0, f1, f2', f3, f4, f5⟩ := fC
  refine wpAny_assign_Name (store_ok2 I3 hN hix (.inl hx) (v := .ref L) rfl (fun s'' I4 hb => ?_) (.inr hx))
  obtain ⟨a, sb, ha⟩ := hb
  have hCa : C ≠ a := by
    rcases ha with e | e
    · rw [e]; exact f1
    · exact fun z => f4 x a e z.symm
  refine ⟨m, hn.sameBut sb hCa, fun h'' sb'' => ⟨_, H', I4.turned (t' := s''.toks) (fun b o hb e => (sb''.2 b hb).trans e) f0 f1 f3 f4 f5, q'⟩⟩
end
end L2

set_option Elab.async false
set_option linter.all false
set_option maxRecDepth 100000
set_option maxHeartbeats 4000000
/-! Texts as lists of signs, and what is done with them. -/
namespace L2
open PySem PySem.Spec PyProof.Rows

abbrev S (l : List Nat) : V := .str ⟨l.toArray⟩
theorem Str_ext {a b : Str} (h : a.cps.toList = b.cps.toList) : a = b := by
  cases a; cases b
  simp at h
  rw [h]
theorem S_inj {a b : List Nat} (h : S a = S b) : a = b := by
  injection h with h
  injection h with h
  simpa using congrArg Array.toList h
section
variable {X : Cx}
/-- a written text -/
theorem pe_S {l : List Nat} {x : Str} {j pos} (h : x = ⟨l.toArray⟩ := by decide +kernel) : PE X (.Constant (.str x) j pos) (tC (S l)) := by
  subst h
  exact pe_str
theorem S_add (a b : List Nat) : (⟨a.toArray⟩ : Str) ++ (⟨b.toArray⟩ : Str) = ⟨(a ++ b).toArray⟩ := Str_ext (by show (a.toArray ++ b.toArray).toList = _; simp)
def rAddS : R2 := fun x y H Q => ∃ a b, x = S a ∧ y = S b ∧ a.length + b.length ≤ sizeLine ∧ Q (S (a ++ b)) H
theorem op_addS : OpR X (binaryOp .Add) rAddS := by
  intro pins s σ H x y v u Q I rx ry ⟨a, b, ex, ey, hl, q⟩
  subst ex ey
  refine op_add_str pins s σ H _ _ v u Q I rx ry ⟨_, _, rfl, rfl, ?_, ?_⟩
  · show a.toArray.size + b.toArray.size ≤ sizeLine
    simpa using hl
  · rw [S_add]; exact q
def rIxC : R2 := fun x y H Q => ∃ l i c, x = S l ∧ y = .int i ∧ l.length ≤ sizeLine ∧ atI l i = some c ∧ Q (S [c]) H
theorem ix_S : IxR X rIxC := by
  intro value slice pins s σ H x y v u Q I rx ry ⟨l, i, c, ex, ey, hl, hc, q⟩ hs
  subst ex ey
  exact ix_str value slice pins s σ H _ _ v u Q I rx ry ⟨_, i, c, rfl, rfl, by simpa [Str.length] using hl, by simpa using hc, q⟩ hs
theorem call_lenS : CallR X (.builtin "len") (fun xs H Q => ∃ l, xs = [S l] ∧ l.length ≤ sizeLine ∧ Q (.int l.length) H) := by
  intro pins s σ H xs us Q I r ⟨l, e, hl, q⟩
  subst e
  exact call_len_str pins s σ H _ us Q I r ⟨_, rfl, by simpa [Str.length] using hl, by simpa [Str.length] using q⟩
/-- one sign within a text -/
def rInS (neg : Bool) : R2 := fun x y H Q => ∃ c l, x = S [c] ∧ y = S l ∧ Q (.bl (if neg then !decide (c ∈ l) else decide (c ∈ l))) H
theorem op_inS : OpR X (compareOp .In) (rInS false) := by
  intro pins s σ H x y v u Q I rx ry ⟨c, l, ex, ey, q⟩
  subst ex ey
  refine op_in_str pins s σ H _ _ v u Q I rx ry ⟨_, _, rfl, rfl, ?_⟩
  rw [StrLaws.found_one]
  simpa using q
/-- the signs of l[lo:hi] -/
def cutN (l : List Nat) (lo hi : Option Int) : List Nat := (l.drop (HT.sIx l.length 0 lo)).take (HT.sIx l.length l.length hi - HT.sIx l.length 0 lo)
theorem picksN (l : List Nat) (a b : Nat) : ((List.range (b - a)).map fun (k : Nat) => ((a : Int) + 1 * (k : Int)).toNat).filterMap (l.toArray[·]?) = (l.drop a).take (b - a) := by
  have key : ∀ (n a : Nat), ((List.range n).map fun (k : Nat) => ((a : Int) + 1 * (k : Int)).toNat).filterMap (l.toArray[·]?) = (l.drop a).take n := by
    intro n
    induction n with
    | zero => intro a; simp
    | succ n ih =>
      intro a
      rw [List.range_succ, List.map_append, List.filterMap_append, ih a, List.take_add_one]
      congr 1
      simp only [List.map_cons, List.map_nil, List.filterMap_cons, List.filterMap_nil, List.getElem?_drop]
      have e : ((a : Int) + 1 * (n : Int)).toNat = a + n := by omega
      rw [e]
      cases q : l[a + n]? with
      | none => simp [q]
      | some v => simp [q]
  exact key _ a
theorem slice_cut (l : List Nat) (lo hi : Option Int) : Txt.slice ⟨l.toArray⟩ lo hi = ⟨(cutN l lo hi).toArray⟩ := by
  have hb := slice_bounds lo hi l.length
  have ei : Builtin.Str.strSliceIndices lo hi 1 l.length = (List.range (HT.sIx l.length l.length hi - HT.sIx l.length 0 lo)).map fun (k : Nat) => (((HT.sIx l.length 0 lo : Nat) : Int) + 1 * (k : Int)).toNat := by
    obtain ⟨h1, h2, h3⟩ := hb
    show sliceRange (sliceBounds lo hi none l.length).1 (sliceBounds lo hi none l.length).2.1 1 = _
    rw [h1, h2]
    unfold sliceRange
    simp only [show (1 : Int) > 0 by decide, if_true, Int.ediv_one]
    congr 2
    split <;> omega
  have hl : (⟨l.toArray⟩ : Str).length = l.length := by simp [Str.length]
  unfold Txt.slice
  rw [hl, ei]
  have e2 := picksN l (HT.sIx l.length 0 lo) (HT.sIx l.length l.length hi)
  split
  · rename_i h
    simp only [List.length_map, List.length_range] at h
    have h' : HT.sIx l.length l.length hi - HT.sIx l.length 0 lo = l.length := by simpa using h
    have h3 : HT.sIx l.length l.length hi ≤ l.length := HT.sIx_le _ _ (Nat.le_refl _) _
    have h4 : HT.sIx l.length 0 lo = 0 ∨ l.length = 0 := by omega
    apply Str_ext
    simp only [cutN, h']
    rcases h4 with h4 | h4
    · simp [h4]
    · have : l = [] := List.length_eq_zero_iff.mp h4
      subst this
      simp
  · apply Str_ext
    simp only [cutN]
    exact e2
theorem cutN_length (l : List Nat) (lo hi : Option Int) : (cutN l lo hi).length ≤ l.length := by
  simp only [cutN, List.length_take, List.length_drop]
  omega
def rSlS : V → Option Int → Option Int → Hp → VK → Prop := fun x lo hi H Q => ∃ l, x = S l ∧ l.length ≤ sizeLine ∧ Q (S (cutN l lo hi)) H
theorem part_val {v : Value} {o : Option Int} (p : IsPart v o) : ∃ q : Option (Int × Tok), v = partValue q ∧ q.map (·.1) = o := by
  cases p with
  | none => exact ⟨none, rfl, rfl⟩
  | int i t => exact ⟨some (i, t), rfl, rfl⟩
theorem sl_S : SlR X rSlS := by
  intro pins s σ H x v vl vu lo hi sl Q I rx hs pl pu ⟨l, ex, hl, q⟩
  subst ex
  obtain ⟨t, rfl⟩ := rx
  obtain ⟨ql, rfl, rfl⟩ := part_val pl
  obtain ⟨qu, rfl, rfl⟩ := part_val pu
  refine ⟨"str", _, F.slot_str_getitem.lookup, typeIs_str _ _ _, wpAny_getItem_str_slice (l := ql) (u := qu) (st := none) hs rfl ?_⟩
  have e : Txt.slice ⟨l.toArray⟩ (ql.map (·.1)) (qu.map (·.1)) = ⟨(cutN l (ql.map (·.1)) (qu.map (·.1))).toArray⟩ := slice_cut _ _ _
  have hz : (cutN l (ql.map (·.1)) (qu.map (·.1))).length ≤ sizeLine := Nat.le_trans (cutN_length _ _ _) hl
  refine post_val_or_made (fun _ => ?_) fun t' k => ⟨S (cutN l (ql.map (·.1)) (qu.map (·.1))), H, I.tok k, ⟨t', ?_⟩, q⟩
  · refine Nat.le_trans ?_ hl
    have := Txt.slice_le ⟨l.toArray⟩ (ql.map (·.1)) (qu.map (·.1))
    refine Nat.le_trans (List.length_filterMap_le _ _ |> fun h => (by simpa [Str.length] using h)) ?_
    have h2 := sliceIndices_le (ql.map (·.1)) (qu.map (·.1)) l.length
    simpa [slicePicked, Str.length] using h2
  · rw [← e]
    rfl
/-! ### how often a sign is in a text -/
theorem occ_go (l : List Nat) (c limit : Nat) : ∀ (k a : Nat) (st : Array Nat × Nat), st.2 ≤ a → st.1.size + k ≤ limit →
    (forIn (List.range' a k) st (StrLaws.occBody ⟨l.toArray⟩ ⟨#[c]⟩ l.length limit)).run.fst.size = st.1.size + (List.range' a k).countP (fun i => l[i]? == some c)
  | 0, a, st, _, _ => by simp
  | k + 1, a, st, h1, h2 => by
    rw [List.range'_succ, List.forIn_cons, List.countP_cons]
    have one := StrLaws.subAt_one ⟨l.toArray⟩ c a
    have hlen : (⟨l.toArray⟩ : Str).length = l.length := by simp [Str.length]
    rw [hlen] at one
    unfold StrLaws.occBody
    by_cases hc : l[a]? = some c
    · have ho := one.mpr (by simpa using hc)
      rw [if_pos ⟨⟨⟨by omega, h1⟩, ho.1⟩, ho.2⟩]
      have ih := occ_go l c limit k (a + 1) (st.1.push a, a + (⟨#[c]⟩ : Str).length) (by show a + 1 ≤ a + 1; omega) (by simp; omega)
      simp only [hc, beq_self_eq_true, if_true]
      have ih' := ih
      simp only [Array.size_push] at ih'
      unfold StrLaws.occBody at ih'
      refine Eq.trans ?_ (ih'.trans (by omega))
      rfl
    · have hno : ¬ (((st.1.size < limit ∧ st.2 ≤ a) ∧ a + (⟨#[c]⟩ : Str).length ≤ l.length) ∧ Builtin.Str.subAt ⟨l.toArray⟩ ⟨#[c]⟩ a = true) := fun h => hc (by simpa using one.mp ⟨h.1.2, h.2⟩)
      rw [if_neg hno]
      have ih := occ_go l c limit k (a + 1) (st.1, st.2) (by show st.2 ≤ a + 1; omega) (by show st.1.size + k ≤ limit; omega)
      have hb : (l[a]? == some c) = false := by simpa using hc
      simp only [hb, Bool.false_eq_true, if_false, Nat.add_zero]
      unfold StrLaws.occBody at ih
      exact ih
theorem countP_range (l : List Nat) (c : Nat) : (List.range' 0 (l.length + 1)).countP (fun i => l[i]? == some c) = l.count c := by
  have key : ∀ (l : List Nat) (a : Nat) (f : Nat → Option Nat), (∀ i, f (a + i) = l[i]?) → (List.range' a (l.length + 1)).countP (fun i => f i == some c) = l.count c := by
    intro l
    induction l with
    | nil =>
      intro a f hf
      have h0 := hf 0
      simp at h0
      simp [List.range'_succ, h0]
    | cons x r ih =>
      intro a f hf
      rw [List.length_cons, List.range'_succ, List.countP_cons, ih (a + 1) f (fun i => by rw [show a + 1 + i = a + (i + 1) by omega, hf]; simp), List.count_cons]
      have h0 := hf 0
      simp only [Nat.add_zero, List.getElem?_cons_zero] at h0
      rw [h0]
      rfl
  exact key l 0 (fun i => l[i]?) fun i => by simp
theorem occ_count (l : List Nat) (c : Nat) : (Builtin.Str.occurrences ⟨l.toArray⟩ ⟨#[c]⟩ 0 l.length (l.length + 1)).length = l.count c := by
  rw [StrLaws.occ_eq]
  have h := occ_go l c (l.length + 1) (l.length + 1) 0 (#[], 0) (Nat.le_refl _) (by simp)
  rw [countP_range] at h
  simp only [Array.length_toList]
  simpa using h
theorem mt_countS : MtR X "str.count" (fun x vs H Q => ∃ l c, x = S l ∧ vs = [S [c]] ∧ Q (.int (l.count c)) H) := by
  intro pins s σ H x xs v us Q I rx rv ⟨l, c, ex, ev, q⟩
  subst ex ev
  obtain ⟨t, rfl⟩ := rx
  obtain ⟨u, rfl, ru⟩ := rv.one
  obtain ⟨t', rfl⟩ := ru
  refine SC.count ?_
  refine ⟨.int (l.count c), H, I.tok _, ⟨s.toks, ?_⟩, q⟩
  have : Txt.count ⟨l.toArray⟩ ⟨#[c]⟩ = ((l.count c : Nat) : Int) := by
    unfold Txt.count
    rw [show (⟨l.toArray⟩ : Str).length = l.length by simp [Str.length], occ_count]
  rw [show (⟨[c].toArray⟩ : Str) = ⟨#[c]⟩ from rfl, this]
/-! ### walking a text -/
/-- fixed values, one after another -/
def Itf (vs : List V) : It := ⟨fun i _ => i < vs.length, fun i H x H' => H' = H ∧ vs[i]? = some x, fun i _ => vs.length ≤ i⟩
def sgs (l : List Nat) : List V := l.map fun c => S [c]
theorem sgs_length (l : List Nat) : (sgs l).length = l.length := by simp [sgs]
theorem turn_str {P : Program} {w : World} {K : PySem.W.Frag} {tg : Expr} (it : Addr) (l : List Nat) (ty : String) (t : Tok) (hty : ty = "str_ascii_iterator" ∨ ty = "str_iterator") :
    Turn P w K tg (Itf (sgs l)) [it] it (fun i h => h.IsStrIter it ty ⟨l.toArray⟩ t i) := by
  have WW : ∀ A : Around, A.handled = none → Walks P w A it [it] [it] l.length (SignAt ⟨l.toArray⟩) (fun i h => h.IsStrIter it ty ⟨l.toArray⟩ t i) := fun A hh => by
    rcases hty with rfl | rfl
    · simpa using Walks.strAscii (prog := P) (w := w) hh it ⟨l.toArray⟩ t
    · simpa using Walks.strWide (prog := P) (w := w) hh it ⟨l.toArray⟩ t
  refine ⟨by simp, fun i h st b hb => ?_, fun i h h' st k => ?_, ?_, ?_, ?_⟩
  · have e : b = it := by simpa using hb
    subst e
    obtain ⟨o, e, c, d⟩ := st
    exact ⟨o, e, fun v z => by rw [d] at z; cases z⟩
  · obtain ⟨o, e, r⟩ := st
    exact ⟨o, k it (by simp) o e, r⟩
  · intro X hP hw hK hc i pins s σ H E I hf st hg
    subst hP hw hK
    obtain ⟨f0, f1, f2, f3, f4, f5⟩ := hf it (by simp)
    have hi : i < l.length := by simpa [sgs] using (show i < (sgs l).length from hg)
    refine (WW X.A (I.ok.hd hc)).item i s _ _ hi st fun v h' tk hv st' kk => ?_
    obtain ⟨c, u, hcx, rfl⟩ := hv
    have I1 : Inv X pins σ H { s with heap := h', toks := tk } := I.turned (fun b o hb e => kk b o (by simpa using hb) e) f0 f1 f3 f4 f5
    obtain ⟨o, e, c', d⟩ := id st'
    refine ⟨_, rfl, go_of (s := { s with heap := h', toks := tk }) (n := ty) e c' d (by rcases hty with rfl | rfl <;> decide) ⟨S [c], H, I1, ⟨u, rfl⟩, ⟨rfl, ?_⟩, st', fun b hb => (hf b hb).1⟩⟩
    have hcx' : l[i]? = some c := by simpa using hcx
    simp [sgs, hcx']
  · intro X hP hw hK hc i pins s σ H E I hf st hg
    subst hP hw hK
    obtain ⟨f0, f1, f2, f3, f4, f5⟩ := hf it (by simp)
    have hi : l.length ≤ i := by simpa [sgs] using (show (sgs l).length ≤ i from hg)
    have none_at : (⟨l.toArray⟩ : Str).cps[i]? = none := by simp [hi]
    rcases hty with rfl | rfl
    · exact wpAny_pyNext_ascii_end (I.ok.hd hc) st none_at fun h' eb => ⟨rfl, I.turned (t' := s.toks) (fun b o hb e => eb b o hb e) f0 f1 f3 f4 f5⟩
    · exact wpAny_pyNext_wide_end (I.ok.hd hc) st none_at fun h' eb => ⟨rfl, I.turned (t' := s.toks) (fun b o hb e => eb b o hb e) f0 f1 f3 f4 f5⟩
  · intro A i s Q E st h
    rcases hty with rfl | rfl
    · exact wpAny_pyIter_striter_ascii st h
    · exact wpAny_pyIter_striter_wide st h
def iStr (tl : TE) : TI := fun σ H R => tl σ H fun x H1 => ∃ l, x = S l ∧ R (Itf (sgs l)) H1
theorem pi_str {tg e : Expr} {tl : TE} (hl : PE X e tl) : PI X tg e (iStr tl) := by
  intro pins s σ H R I h
  refine thn (hl pins s σ H _ I h) fun v s1 ⟨x, H1, I1, r1, l, ex, q⟩ => ?_
  subst ex
  obtain ⟨t, rfl⟩ := r1
  refine wpAny_pyIter_strU ?_
  refine ⟨s1.heap.objs.size, [s1.heap.objs.size], _, _, H1, rfl, I1.kept (t' := s1.toks) fun b o e => Heap.get?_push_of_some _ e, turn_str _ l (strIterType ⟨l.toArray⟩) t ?_, ⟨_, Heap.get?_push_size _ rfl, rfl, rfl⟩, fun b hb => ?_, q⟩
  · unfold strIterType
    split
    · exact .inl rfl
    · exact .inr rfl
  · have e : b = s1.heap.objs.size := by simpa using hb
    subst e
    exact I1.fpOk (Nat.le_refl _) (I1.hok.fresh (Nat.le_refl _))
/-! ### all, any of a list of bools -/
theorem range_all (bs : List Bool) : (List.range bs.length).all (fun i => bs[i]?.getD false) = bs.all id := by
  rw [Bool.eq_iff_iff, List.all_eq_true, List.all_eq_true]
  constructor
  · intro h b hb
    obtain ⟨i, hi, rfl⟩ := List.mem_iff_getElem.mp hb
    have := h i (by simpa using hi)
    simpa [hi] using this
  · intro h i hi
    have hi' : i < bs.length := by simpa using hi
    have := h bs[i] (List.getElem_mem hi')
    simpa [hi'] using this
theorem bools_truth {P : Program} {w : World} {A : Around} {bs : List Bool} {its : List Value} (r : Vals (bs.map V.bl) its) : TruthOf P w A (fun i v => its.toArray[i]? = some v) (fun i => bs[i]?.getD false) := by
  intro i v s Q E hP hQ
  have hP' : its[i]? = some v := by simpa using hP
  have hl := r.length
  have hi : i < its.length := (List.getElem?_eq_some_iff.mp hP').1
  have hb : i < bs.length := by simpa [← hl] using hi
  obtain ⟨u, hu, ru⟩ := r.get (i := i) (x := .bl bs[i]) (by simp [hb])
  rw [hP'] at hu
  cases hu
  cases ru
  have e : bs[i]?.getD false = bs[i] := by simp [hb]
  have hQ' : Q (bs[i]?.getD false) s := hQ
  rw [e] at hQ'
  exact wpAny_truthy_bool hQ'
theorem call_allB (hc : X.calm = true) : CallR X (.builtin "all") (fun xs H Q => ∃ (p : Addr) (bs : List Bool), xs = [.ref p] ∧ SqL X.K H p (bs.map V.bl) ∧ Q (.bl (bs.all id)) H) := by
  intro pins s σ H xs us Q I r ⟨p, bs, e, hq, q⟩
  subst e
  obtain ⟨u, rfl, ru⟩ := r.one
  cases ru
  obtain ⟨its, rv, pl, hz⟩ := I.list hq
  have hlt : p < s.heap.objs.size := by obtain ⟨o, n, e, _⟩ := pl; exact Heap.lt_size e
  refine call_all_walk (wpAny_pyIter_list pl.isList ⟨_, _, _, _, _, _, fun i => bs[i]?.getD false, rfl, Walks.list (A := X.A.in1) (I.ok.hd hc) s.heap.objs.size p (Nat.ne_of_lt hlt) its.toArray, ⟨⟨_, Heap.get?_push_size _ rfl, rfl, rfl⟩, pl.isList.push _⟩, bools_truth rv, fun h' tk hk => ?_⟩)
  refine ⟨.bl (bs.all id), H, I.kept (t' := tk) (fun b o e => hk b o (by simpa using Nat.ne_of_lt (Heap.lt_size e)) (Heap.get?_push_of_some _ e)), ?_, q⟩
  have hl : its.toArray.size = bs.length := by have := rv.length; simp at this; simp [this]
  rw [hl, range_all]
  rfl
/-! ### isinstance(x, str) -/
/-! ### is True, is not False .. -/
end
end L2

set_option Elab.async false
set_option linter.all false
set_option maxRecDepth 100000
set_option maxHeartbeats 4000000
/-! Data of any depth, and == of them. -/
namespace L2
open PySem PySem.Spec PyProof.Rows

section
variable (K : PySem.W.Frag) (H : Hp)
mutual
/-- the value v stands for d -/
def Rep : Dt → V → Prop
  | .non, v => v = .non
  | .bl b, v => v = .bl b
  | .int i, v => v = .int i
  | .str l, v => v = S l
  | .tup ds, v => ∃ a xs, v = .ref a ∧ SqT K H a xs ∧ Reps ds xs
  | .lst ds, v => ∃ a xs, v = .ref a ∧ SqL K H a xs ∧ Reps ds xs
def Reps : List Dt → List V → Prop
  | [], xs => xs = []
  | d :: ds, xs => ∃ x r, xs = x :: r ∧ Rep d x ∧ Reps ds r
end
end
theorem Same.seqT {K : PySem.W.Frag} {H H' : Hp} {a : Addr} {xs : List V} (e : Same H H') (h : SqT K H a xs) : SqT K H' a xs := by
  rcases h with (h | ⟨o, h⟩) | h
  · exact .inl (.inl (e _ _ h))
  · exact .inl (.inr ⟨o, e _ _ h⟩)
  · exact .inr h
mutual
theorem Rep.mono {K : PySem.W.Frag} {H H' : Hp} (e : Same H H') : ∀ {d : Dt} {v : V}, Rep K H d v → Rep K H' d v
  | .non, _, h => by simpa only [Rep] using h
  | .bl _, _, h => by simpa only [Rep] using h
  | .int _, _, h => by simpa only [Rep] using h
  | .str _, _, h => by simpa only [Rep] using h
  | .tup ds, _, h => by
    simp only [Rep] at h ⊢
    obtain ⟨a, xs, h1, h2, h3⟩ := h
    exact ⟨a, xs, h1, e.seqT h2, Reps.mono e h3⟩
  | .lst ds, _, h => by
    simp only [Rep] at h ⊢
    obtain ⟨a, xs, h1, h2, h3⟩ := h
    exact ⟨a, xs, h1, e.seq h2, Reps.mono e h3⟩
theorem Reps.mono {K : PySem.W.Frag} {H H' : Hp} (e : Same H H') : ∀ {ds : List Dt} {xs : List V}, Reps K H ds xs → Reps K H' ds xs
  | [], _, h => by simpa only [Reps] using h
  | d :: ds, _, h => by
    simp only [Reps] at h ⊢
    obtain ⟨x, r, h1, h2, h3⟩ := h
    exact ⟨x, r, h1, Rep.mono e h2, Reps.mono e h3⟩
end
theorem Reps.nil {K : PySem.W.Frag} {H : Hp} : Reps K H [] [] := by simp only [Reps]
theorem Reps.cons {K : PySem.W.Frag} {H : Hp} {d : Dt} {ds : List Dt} {x : V} {xs : List V} (h : Rep K H d x) (t : Reps K H ds xs) : Reps K H (d :: ds) (x :: xs) := by
  simp only [Reps]
  exact ⟨x, xs, rfl, h, t⟩
theorem Reps.length {K : PySem.W.Frag} {H : Hp} : ∀ {ds : List Dt} {xs : List V}, Reps K H ds xs → ds.length = xs.length
  | [], _, h => by simp only [Reps] at h; subst h; rfl
  | d :: ds, _, h => by
    simp only [Reps] at h
    obtain ⟨x, r, rfl, _, h3⟩ := h
    simp [Reps.length h3]
theorem Reps.get {K : PySem.W.Frag} {H : Hp} : ∀ {ds : List Dt} {xs : List V} {i : Nat} {x : V}, Reps K H ds xs → xs[i]? = some x → ∃ d, ds[i]? = some d ∧ Rep K H d x
  | [], _, i, x, h, e => by simp only [Reps] at h; subst h; simp at e
  | d :: ds, _, 0, x, h, e => by
    simp only [Reps] at h
    obtain ⟨y, r, rfl, h2, _⟩ := h
    simp at e
    subst e
    exact ⟨d, rfl, h2⟩
  | d :: ds, _, i + 1, x, h, e => by
    simp only [Reps] at h
    obtain ⟨y, r, rfl, _, h3⟩ := h
    obtain ⟨d', a, b⟩ := Reps.get (i := i) (x := x) h3 (by simpa using e)
    exact ⟨d', by simpa using a, b⟩
theorem Reps.append {K : PySem.W.Frag} {H : Hp} : ∀ {ds es : List Dt} {xs ys : List V}, Reps K H ds xs → Reps K H es ys → Reps K H (ds ++ es) (xs ++ ys)
  | [], es, xs, ys, h, t => by simp only [Reps] at h; subst h; simpa using t
  | d :: ds, es, xs, ys, h, t => by
    simp only [Reps] at h
    obtain ⟨x, r, rfl, h2, h3⟩ := h
    exact .cons h2 (Reps.append h3 t)
theorem rep_int {K : PySem.W.Frag} {H : Hp} {i : Int} : Rep K H (.int i) (.int i) := by simp only [Rep]
theorem rep_str {K : PySem.W.Frag} {H : Hp} {l : List Nat} : Rep K H (.str l) (S l) := by simp only [Rep]
theorem rep_bl {K : PySem.W.Frag} {H : Hp} {b : Bool} : Rep K H (.bl b) (.bl b) := by simp only [Rep]
theorem rep_non {K : PySem.W.Frag} {H : Hp} : Rep K H .non .non := by simp only [Rep]
theorem rep_tup {K : PySem.W.Frag} {H : Hp} {a : Addr} {xs : List V} {ds : List Dt} (h : H a = some (.tup xs)) (r : Reps K H ds xs) : Rep K H (.tup ds) (.ref a) := by
  simp only [Rep]
  exact ⟨a, xs, rfl, .of h, r⟩
theorem rep_lst {K : PySem.W.Frag} {H : Hp} {a : Addr} {xs : List V} {ds : List Dt} (h : H a = some (.lst xs)) (r : Reps K H ds xs) : Rep K H (.lst ds) (.ref a) := by
  simp only [Rep]
  exact ⟨a, xs, rfl, .of h, r⟩
theorem Inv.list_tuple {X : Cx} {pins : List (Addr × Obj)} {σ : St} {H : Hp} {s : Shared} {a : Addr} {xs ys : List V} (I : Inv X pins σ H s) (h : SqL X.K H a xs) (h' : SqT X.K H a ys) : False := by
  obtain ⟨its, r, ⟨o, n, e, c, _⟩, _⟩ := I.list h
  obtain ⟨its', r', ⟨o', e', c', _⟩, _⟩ := I.tuple h'
  rw [e] at e'
  cases e'
  rw [c] at c'
  injection c' with c'
  exact absurd c' (by decide)
mutual
theorem Rep.inj {X : Cx} {pins : List (Addr × Obj)} {σ : St} {H : Hp} {s : Shared} (I : Inv X pins σ H s) : ∀ {d e : Dt} {v : V}, Rep X.K H d v → Rep X.K H e v → d = e
  | .non, e, v, h, h' => by
    simp only [Rep] at h
    subst h
    cases e <;> simp only [Rep] at h' <;> first | rfl | (exfalso; first | exact nomatch h' | (obtain ⟨_, _, z, _⟩ := h'; exact nomatch z))
  | .bl b, e, v, h, h' => by
    simp only [Rep] at h
    subst h
    cases e <;> simp only [Rep] at h' <;> first | (injection h' with h'; rw [h']) | (exfalso; first | exact nomatch h' | (obtain ⟨_, _, z, _⟩ := h'; exact nomatch z))
  | .int i, e, v, h, h' => by
    simp only [Rep] at h
    subst h
    cases e <;> simp only [Rep] at h' <;> first | (injection h' with h'; rw [h']) | (exfalso; first | exact nomatch h' | (obtain ⟨_, _, z, _⟩ := h'; exact nomatch z))
  | .str l, e, v, h, h' => by
    simp only [Rep] at h
    subst h
    cases e with
    | str l' => simp only [Rep] at h'; rw [S_inj h']
    | _ => simp only [Rep] at h'; exfalso; first | exact nomatch h' | (obtain ⟨_, _, z, _⟩ := h'; exact nomatch z)
  | .tup ds, e, v, h, h' => by
    simp only [Rep] at h
    obtain ⟨a, xs, rfl, h2, h3⟩ := h
    cases e with
    | tup es =>
      simp only [Rep] at h'
      obtain ⟨b, ys, hb, h4, h5⟩ := h'
      cases hb
      rw [I.tuple_inj h2 h4] at h3
      rw [Reps.inj I h3 h5]
    | lst es =>
      simp only [Rep] at h'
      obtain ⟨b, ys, hb, h4, h5⟩ := h'
      cases hb
      exact (I.list_tuple h4 h2).elim
    | _ => simp only [Rep] at h'; exfalso; exact nomatch h'
  | .lst ds, e, v, h, h' => by
    simp only [Rep] at h
    obtain ⟨a, xs, rfl, h2, h3⟩ := h
    cases e with
    | lst es =>
      simp only [Rep] at h'
      obtain ⟨b, ys, hb, h4, h5⟩ := h'
      cases hb
      rw [I.list_inj h2 h4] at h3
      rw [Reps.inj I h3 h5]
    | tup es =>
      simp only [Rep] at h'
      obtain ⟨b, ys, hb, h4, h5⟩ := h'
      cases hb
      exact (I.list_tuple h2 h4).elim
    | _ => simp only [Rep] at h'; exfalso; exact nomatch h'
theorem Reps.inj {X : Cx} {pins : List (Addr × Obj)} {σ : St} {H : Hp} {s : Shared} (I : Inv X pins σ H s) : ∀ {ds es : List Dt} {xs : List V}, Reps X.K H ds xs → Reps X.K H es xs → ds = es
  | [], es, xs, h, h' => by
    simp only [Reps] at h
    subst h
    cases es with
    | nil => rfl
    | cons e es => simp only [Reps] at h'; obtain ⟨_, _, z, _⟩ := h'; cases z
  | d :: ds, es, xs, h, h' => by
    simp only [Reps] at h
    obtain ⟨x, r, rfl, h2, h3⟩ := h
    cases es with
    | nil => simp only [Reps] at h'; cases h'
    | cons e es =>
      simp only [Reps] at h'
      obtain ⟨y, t, z, h4, h5⟩ := h'
      injection z with z1 z2
      subst z1 z2
      rw [Rep.inj I h2 h4, Reps.inj I h3 h5]
end

mutual
theorem eqD_refl : ∀ d : Dt, eqD d d = true
  | .non => rfl
  | .bl b => by simp [eqD]
  | .int b => by simp [eqD]
  | .str b => by simp [eqD]
  | .tup b => by simp only [eqD]; exact eqDs_refl b
  | .lst b => by simp only [eqD]; exact eqDs_refl b
theorem eqDs_refl : ∀ d : List Dt, eqDs d d = true
  | [] => rfl
  | a :: r => by simp only [eqDs]; rw [eqD_refl a, eqDs_refl r]; rfl
end
theorem eqDs_len : ∀ {a b : List Dt}, a.length ≠ b.length → eqDs a b = false
  | [], [], h => absurd rfl h
  | [], _ :: _, _ => by simp only [eqDs]
  | _ :: _, [], _ => by simp only [eqDs]
  | a :: r, b :: t, h => by
    simp only [eqDs]
    rw [eqDs_len (a := r) (b := t) (by simpa using h), Bool.and_false]
theorem eqDs_all : ∀ (a b : List Dt), a.length = b.length → (List.range a.length).all (fun i => match a[i]?, b[i]? with | some x, some y => eqD x y | _, _ => true) = eqDs a b
  | [], [], _ => by simp [eqDs]
  | x :: r, y :: t, h => by
    have ih := eqDs_all r t (by simpa using h)
    simp only [List.length_cons, eqDs]
    rw [List.range_succ_eq_map, List.all_cons, List.all_map]
    simp only [List.getElem?_cons_zero]
    rw [← ih]
    congr 1
theorem str_beqS (a b : List Nat) : ((⟨a.toArray⟩ : Str) == ⟨b.toArray⟩) = (a == b) := by
  rw [Bool.eq_iff_iff]
  simp only [beq_iff_eq]
  constructor
  · intro h
    injection h with h
    simpa using congrArg Array.toList h
  · intro h; rw [h]
theorem dep_mem {d : Dt} : ∀ {ds : List Dt}, d ∈ ds → dep d ≤ deps ds
  | e :: ds, h => by
    simp only [deps]
    rcases List.mem_cons.mp h with h | h
    · subst h; omega
    · have := dep_mem h; omega
section
variable {X : Cx} {pins : List (Addr × Obj)} {σ : St} {H : Hp} {s : Shared}
theorem Inv.repL (I : Inv X pins σ H s) {ds : List Dt} {v : V} (h : Rep X.K H (.lst ds) v) : ∃ a xs, v = .ref a ∧ SqL X.K H a xs ∧ Reps X.K H ds xs ∧ ∃ its : List Value, Vals xs its ∧ s.heap.IsList a its.toArray := by
  simp only [Rep] at h
  obtain ⟨a, xs, rfl, h2, h3⟩ := h
  obtain ⟨its, r, p, _⟩ := I.list h2
  exact ⟨a, xs, rfl, h2, h3, its, r, p.isList⟩
theorem Inv.repT (I : Inv X pins σ H s) {ds : List Dt} {v : V} (h : Rep X.K H (.tup ds) v) : ∃ a xs, v = .ref a ∧ SqT X.K H a xs ∧ Reps X.K H ds xs ∧ ∃ its : List Value, Vals xs its ∧ s.heap.IsTuple a its.toArray := by
  simp only [Rep] at h
  obtain ⟨a, xs, rfl, h2, h3⟩ := h
  obtain ⟨its, r, p, _⟩ := I.tuple h2
  exact ⟨a, xs, rfl, h2, h3, its, r, p⟩
/-- what the items answer -/
theorem items_eq (A : Around) (I : Inv X pins σ H s) {ds es : List Dt} {xs ys : List V} {us vs : List Value} (rx : Reps X.K H ds xs) (ry : Reps X.K H es ys) (ru : Vals xs us) (rv : Vals ys vs)
    (ih : ∀ d ∈ ds, ∀ e v w u t, Rep X.K H d v → Rep X.K H e w → RelV v u → RelV w t → SeqAt.EqAt A s u t (eqD d e)) :
    ∀ j (h1 : j < us.toArray.size) (h2 : j < vs.toArray.size), SeqAt.EqAt A s us.toArray[j] vs.toArray[j] ((fun i => match ds[i]?, es[i]? with | some x, some y => eqD x y | _, _ => true) j) := by
  intro j h1 h2
  have h1' : j < us.length := by simpa using h1
  have h2' : j < vs.length := by simpa using h2
  have e1 := ru.length
  have e2 := rv.length
  have hx : j < xs.length := by omega
  have hy : j < ys.length := by omega
  obtain ⟨d, hd, rd⟩ := rx.get (i := j) (x := xs[j]) (by simp [hx])
  obtain ⟨e, he, re⟩ := ry.get (i := j) (x := ys[j]) (by simp [hy])
  obtain ⟨u, hu, ru'⟩ := ru.get (i := j) (x := xs[j]) (by simp [hx])
  obtain ⟨t, ht, rt'⟩ := rv.get (i := j) (x := ys[j]) (by simp [hy])
  have hu' : us[j] = u := by simpa [h1'] using hu
  have ht' : vs[j] = t := by simpa [h2'] using ht
  have hm : d ∈ ds := List.mem_of_getElem? hd
  simp only [hd, he, List.getElem_toArray, hu', ht']
  exact ih d hm e _ _ u t rd re ru' rt'

theorem lists_rc (A : Around) (I : Inv X pins σ H s) {a b : Addr} {ds es : List Dt} {xs ys : List V} {us vs : List Value} (rx : Reps X.K H ds xs) (ry : Reps X.K H es ys) (ru : Vals xs us) (rv : Vals ys vs)
    (pa : s.heap.IsList a us.toArray) (pb : s.heap.IsList b vs.toArray) (hu : A.units < cLine)
    (ih : ∀ d ∈ ds, ∀ e v w u t, Rep X.K H d v → Rep X.K H e w → RelV v u → RelV w t → SeqAt.EqAt A.in1 s u t (eqD d e)) : SeqAt.RcAt A s (.ref a) (.ref b) (eqD (.lst ds) (.lst es)) := by
  have l1 := rx.length
  have l2 := ry.length
  have l3 := ru.length
  have l4 := rv.length
  simp only [eqD]
  by_cases hl : ds.length = es.length
  · have z := SeqAt.RcAt.lists pa pb (by simp; omega) hu (items_eq A.in1 I rx ry ru rv ih)
    rw [show us.toArray.size = ds.length by simp; omega] at z
    rw [eqDs_all ds es hl] at z
    exact z
  · have z := SeqAt.RcAt.lists_lengths pa pb (by simp; omega) hu
    rw [eqDs_len hl]
    exact z
theorem tuples_rc (A : Around) (I : Inv X pins σ H s) {a b : Addr} {ds es : List Dt} {xs ys : List V} {us vs : List Value} (rx : Reps X.K H ds xs) (ry : Reps X.K H es ys) (ru : Vals xs us) (rv : Vals ys vs)
    (pa : s.heap.IsTuple a us.toArray) (pb : s.heap.IsTuple b vs.toArray) (hu : A.units < cLine)
    (ih : ∀ d ∈ ds, ∀ e v w u t, Rep X.K H d v → Rep X.K H e w → RelV v u → RelV w t → SeqAt.EqAt A.in1 s u t (eqD d e)) : SeqAt.RcAt A s (.ref a) (.ref b) (eqD (.tup ds) (.tup es)) := by
  have l1 := rx.length
  have l2 := ry.length
  have l3 := ru.length
  have l4 := rv.length
  simp only [eqD]
  have z := SeqAt.RcAt.tuples pa pb hu (items_eq A.in1 I rx ry ru rv ih)
  by_cases hl : ds.length = es.length
  · rw [show min us.toArray.size vs.toArray.size = ds.length by simp; omega, show (us.toArray.size == vs.toArray.size) = true by simp; omega, Bool.and_true] at z
    rw [eqDs_all ds es hl] at z
    exact z
  · rw [show (us.toArray.size == vs.toArray.size) = false by simp; omega, Bool.and_false] at z
    rw [eqDs_len hl]
    exact z

theorem lists_ne (A : Around) (I : Inv X pins σ H s) {a b : Addr} {ds es : List Dt} {xs ys : List V} {us vs : List Value} (rx : Reps X.K H ds xs) (ry : Reps X.K H es ys) (ru : Vals xs us) (rv : Vals ys vs)
    (pa : s.heap.IsList a us.toArray) (pb : s.heap.IsList b vs.toArray) (hu : A.units < cLine)
    (ih : ∀ d ∈ ds, ∀ e v w u t, Rep X.K H d v → Rep X.K H e w → RelV v u → RelV w t → SeqAt.EqAt A.in1 s u t (eqD d e)) : SeqAt.RcNeAt A s (.ref a) (.ref b) (!eqD (.lst ds) (.lst es)) := by
  have l1 := rx.length
  have l2 := ry.length
  have l3 := ru.length
  have l4 := rv.length
  simp only [eqD]
  by_cases hl : ds.length = es.length
  · have z := SeqAt.RcNeAt.lists pa pb (by simp; omega) hu (items_eq A.in1 I rx ry ru rv ih)
    rw [show us.toArray.size = ds.length by simp; omega] at z
    rw [eqDs_all ds es hl] at z
    exact z
  · have z := SeqAt.RcNeAt.lists_lengths pa pb (by simp; omega) hu
    rw [eqDs_len hl]
    exact z
theorem tuples_ne (A : Around) (I : Inv X pins σ H s) {a b : Addr} {ds es : List Dt} {xs ys : List V} {us vs : List Value} (rx : Reps X.K H ds xs) (ry : Reps X.K H es ys) (ru : Vals xs us) (rv : Vals ys vs)
    (pa : s.heap.IsTuple a us.toArray) (pb : s.heap.IsTuple b vs.toArray) (hu : A.units < cLine)
    (ih : ∀ d ∈ ds, ∀ e v w u t, Rep X.K H d v → Rep X.K H e w → RelV v u → RelV w t → SeqAt.EqAt A.in1 s u t (eqD d e)) : SeqAt.RcNeAt A s (.ref a) (.ref b) (!eqD (.tup ds) (.tup es)) := by
  have l1 := rx.length
  have l2 := ry.length
  have l3 := ru.length
  have l4 := rv.length
  simp only [eqD]
  have z := SeqAt.RcNeAt.tuples pa pb hu (items_eq A.in1 I rx ry ru rv ih)
  by_cases hl : ds.length = es.length
  · rw [show min us.toArray.size vs.toArray.size = ds.length by simp; omega, show (us.toArray.size == vs.toArray.size) = true by simp; omega, Bool.and_true] at z
    rw [eqDs_all ds es hl] at z
    exact z
  · rw [show (us.toArray.size == vs.toArray.size) = false by simp; omega, Bool.and_false] at z
    rw [eqDs_len hl]
    exact z
theorem eqAt_rep {A : Around} (I : Inv X pins σ H s) : ∀ (d e : Dt) (v w : V) (u t : Value), Rep X.K H d v → Rep X.K H e w → RelV v u → RelV w t → A.units + dep d < cLine → SeqAt.EqAt A s u t (eqD d e)
  | .non, .non, v, w, u, t, h, h', r, r', hu => by
    simp only [Rep] at h
    subst h
    cases r
    simp only [Rep] at h'
    subst h'
    cases r'
    simp only [eqD]
    exact SeqAt.EqAt.same _ 
  | .non, .bl _, v, w, u, t, h, h', r, r', hu => by
    simp only [Rep] at h
    subst h
    cases r
    simp only [Rep] at h'
    subst h'
    cases r'
    simp only [eqD]
    exact SeqAt.EqAt.none_bool _
  | .non, .int _, v, w, u, t, h, h', r, r', hu => by
    simp only [Rep] at h
    subst h
    cases r
    simp only [Rep] at h'
    subst h'
    obtain ⟨t2, rfl⟩ := r'
    simp only [eqD]
    exact SeqAt.EqAt.none_int _ _
  | .non, .str lb, v, w, u, t, h, h', r, r', hu => by
    simp only [Rep] at h
    subst h
    cases r
    simp only [Rep] at h'
    subst h'
    obtain ⟨t2, rfl⟩ := r'
    simp only [eqD]
    exact SeqAt.EqAt.none_str _ _
  | .non, .tup es, v, w, u, t, h, h', r, r', hu => by
    simp only [Rep] at h
    subst h
    cases r
    obtain ⟨a2, xs2, rfl, _, _, its2, _, p2⟩ := I.repT h'
    cases r'
    simp only [eqD]
    exact SeqAt.EqAt.none_tuple  p2 (by omega)
  | .non, .lst es, v, w, u, t, h, h', r, r', hu => by
    simp only [Rep] at h
    subst h
    cases r
    obtain ⟨a2, xs2, rfl, _, _, its2, _, p2⟩ := I.repL h'
    cases r'
    simp only [eqD]
    exact SeqAt.EqAt.none_list  p2 (by omega)
  | .bl _, .non, v, w, u, t, h, h', r, r', hu => by
    simp only [Rep] at h
    subst h
    cases r
    simp only [Rep] at h'
    subst h'
    cases r'
    simp only [eqD]
    exact SeqAt.EqAt.bool_none _
  | .bl _, .bl _, v, w, u, t, h, h', r, r', hu => by
    simp only [Rep] at h
    subst h
    cases r
    simp only [Rep] at h'
    subst h'
    cases r'
    simp only [eqD]
    exact SeqAt.EqAt.bool_bool _ _
  | .bl _, .int _, v, w, u, t, h, h', r, r', hu => by
    simp only [Rep] at h
    subst h
    cases r
    simp only [Rep] at h'
    subst h'
    obtain ⟨t2, rfl⟩ := r'
    simp only [eqD]
    exact SeqAt.EqAt.bool_int _ _ _
  | .bl _, .str lb, v, w, u, t, h, h', r, r', hu => by
    simp only [Rep] at h
    subst h
    cases r
    simp only [Rep] at h'
    subst h'
    obtain ⟨t2, rfl⟩ := r'
    simp only [eqD]
    exact SeqAt.EqAt.bool_str _ _ _
  | .bl _, .tup es, v, w, u, t, h, h', r, r', hu => by
    simp only [Rep] at h
    subst h
    cases r
    obtain ⟨a2, xs2, rfl, _, _, its2, _, p2⟩ := I.repT h'
    cases r'
    simp only [eqD]
    exact SeqAt.EqAt.bool_tuple _ p2 (by omega)
  | .bl _, .lst es, v, w, u, t, h, h', r, r', hu => by
    simp only [Rep] at h
    subst h
    cases r
    obtain ⟨a2, xs2, rfl, _, _, its2, _, p2⟩ := I.repL h'
    cases r'
    simp only [eqD]
    exact SeqAt.EqAt.bool_list _ p2 (by omega)
  | .int _, .non, v, w, u, t, h, h', r, r', hu => by
    simp only [Rep] at h
    subst h
    obtain ⟨t1, rfl⟩ := r
    simp only [Rep] at h'
    subst h'
    cases r'
    simp only [eqD]
    exact SeqAt.EqAt.int_none _ _
  | .int _, .bl _, v, w, u, t, h, h', r, r', hu => by
    simp only [Rep] at h
    subst h
    obtain ⟨t1, rfl⟩ := r
    simp only [Rep] at h'
    subst h'
    cases r'
    simp only [eqD]
    exact SeqAt.EqAt.int_bool _ _ _
  | .int _, .int _, v, w, u, t, h, h', r, r', hu => by
    simp only [Rep] at h
    subst h
    obtain ⟨t1, rfl⟩ := r
    simp only [Rep] at h'
    subst h'
    obtain ⟨t2, rfl⟩ := r'
    simp only [eqD]
    exact SeqAt.EqAt.int_int _ _ _ _
  | .int _, .str lb, v, w, u, t, h, h', r, r', hu => by
    simp only [Rep] at h
    subst h
    obtain ⟨t1, rfl⟩ := r
    simp only [Rep] at h'
    subst h'
    obtain ⟨t2, rfl⟩ := r'
    simp only [eqD]
    exact SeqAt.EqAt.int_str _ _ _ _
  | .int _, .tup es, v, w, u, t, h, h', r, r', hu => by
    simp only [Rep] at h
    subst h
    obtain ⟨t1, rfl⟩ := r
    obtain ⟨a2, xs2, rfl, _, _, its2, _, p2⟩ := I.repT h'
    cases r'
    simp only [eqD]
    exact SeqAt.EqAt.int_tuple _ _ p2 (by omega)
  | .int _, .lst es, v, w, u, t, h, h', r, r', hu => by
    simp only [Rep] at h
    subst h
    obtain ⟨t1, rfl⟩ := r
    obtain ⟨a2, xs2, rfl, _, _, its2, _, p2⟩ := I.repL h'
    cases r'
    simp only [eqD]
    exact SeqAt.EqAt.int_list _ _ p2 (by omega)
  | .str la, .non, v, w, u, t, h, h', r, r', hu => by
    simp only [Rep] at h
    subst h
    obtain ⟨t1, rfl⟩ := r
    simp only [Rep] at h'
    subst h'
    cases r'
    simp only [eqD]
    exact SeqAt.EqAt.str_none _ _
  | .str la, .bl _, v, w, u, t, h, h', r, r', hu => by
    simp only [Rep] at h
    subst h
    obtain ⟨t1, rfl⟩ := r
    simp only [Rep] at h'
    subst h'
    cases r'
    simp only [eqD]
    exact SeqAt.EqAt.str_bool _ _ _
  | .str la, .int _, v, w, u, t, h, h', r, r', hu => by
    simp only [Rep] at h
    subst h
    obtain ⟨t1, rfl⟩ := r
    simp only [Rep] at h'
    subst h'
    obtain ⟨t2, rfl⟩ := r'
    simp only [eqD]
    exact SeqAt.EqAt.str_int _ _ _ _
  | .str la, .str lb, v, w, u, t, h, h', r, r', hu => by
    simp only [Rep] at h
    subst h
    obtain ⟨t1, rfl⟩ := r
    simp only [Rep] at h'
    subst h'
    obtain ⟨t2, rfl⟩ := r'
    have z := SeqAt.EqAt.str_str (A := A) (s := s) ⟨la.toArray⟩ t1 ⟨lb.toArray⟩ t2
    rw [str_beqS] at z
    simpa only [eqD] using z
  | .str la, .tup es, v, w, u, t, h, h', r, r', hu => by
    simp only [Rep] at h
    subst h
    obtain ⟨t1, rfl⟩ := r
    obtain ⟨a2, xs2, rfl, _, _, its2, _, p2⟩ := I.repT h'
    cases r'
    simp only [eqD]
    exact SeqAt.EqAt.str_tuple _ _ p2 (by omega)
  | .str la, .lst es, v, w, u, t, h, h', r, r', hu => by
    simp only [Rep] at h
    subst h
    obtain ⟨t1, rfl⟩ := r
    obtain ⟨a2, xs2, rfl, _, _, its2, _, p2⟩ := I.repL h'
    cases r'
    simp only [eqD]
    exact SeqAt.EqAt.str_list _ _ p2 (by omega)
  | .tup ds, .non, v, w, u, t, h, h', r, r', hu => by
    obtain ⟨a1, xs1, rfl, _, _, its1, _, p1⟩ := I.repT h
    cases r
    simp only [Rep] at h'
    subst h'
    cases r'
    simp only [eqD]
    exact SeqAt.EqAt.tuple_none  p1 (by omega)
  | .tup ds, .bl _, v, w, u, t, h, h', r, r', hu => by
    obtain ⟨a1, xs1, rfl, _, _, its1, _, p1⟩ := I.repT h
    cases r
    simp only [Rep] at h'
    subst h'
    cases r'
    simp only [eqD]
    exact SeqAt.EqAt.tuple_bool _ p1 (by omega)
  | .tup ds, .int _, v, w, u, t, h, h', r, r', hu => by
    obtain ⟨a1, xs1, rfl, _, _, its1, _, p1⟩ := I.repT h
    cases r
    simp only [Rep] at h'
    subst h'
    obtain ⟨t2, rfl⟩ := r'
    simp only [eqD]
    exact SeqAt.EqAt.tuple_int _ _ p1 (by omega)
  | .tup ds, .str lb, v, w, u, t, h, h', r, r', hu => by
    obtain ⟨a1, xs1, rfl, _, _, its1, _, p1⟩ := I.repT h
    cases r
    simp only [Rep] at h'
    subst h'
    obtain ⟨t2, rfl⟩ := r'
    simp only [eqD]
    exact SeqAt.EqAt.tuple_str _ _ p1 (by omega)
  | .tup ds, .lst es, v, w, u, t, h, h', r, r', hu => by
    obtain ⟨a1, xs1, rfl, _, _, its1, _, p1⟩ := I.repT h
    cases r
    obtain ⟨a2, xs2, rfl, _, _, its2, _, p2⟩ := I.repL h'
    cases r'
    simp only [eqD]
    exact SeqAt.EqAt.tuple_list  p1 p2 (by omega)
  | .lst ds, .non, v, w, u, t, h, h', r, r', hu => by
    obtain ⟨a1, xs1, rfl, _, _, its1, _, p1⟩ := I.repL h
    cases r
    simp only [Rep] at h'
    subst h'
    cases r'
    simp only [eqD]
    exact SeqAt.EqAt.list_none  p1 (by omega)
  | .lst ds, .bl _, v, w, u, t, h, h', r, r', hu => by
    obtain ⟨a1, xs1, rfl, _, _, its1, _, p1⟩ := I.repL h
    cases r
    simp only [Rep] at h'
    subst h'
    cases r'
    simp only [eqD]
    exact SeqAt.EqAt.list_bool _ p1 (by omega)
  | .lst ds, .int _, v, w, u, t, h, h', r, r', hu => by
    obtain ⟨a1, xs1, rfl, _, _, its1, _, p1⟩ := I.repL h
    cases r
    simp only [Rep] at h'
    subst h'
    obtain ⟨t2, rfl⟩ := r'
    simp only [eqD]
    exact SeqAt.EqAt.list_int _ _ p1 (by omega)
  | .lst ds, .str lb, v, w, u, t, h, h', r, r', hu => by
    obtain ⟨a1, xs1, rfl, _, _, its1, _, p1⟩ := I.repL h
    cases r
    simp only [Rep] at h'
    subst h'
    obtain ⟨t2, rfl⟩ := r'
    simp only [eqD]
    exact SeqAt.EqAt.list_str _ _ p1 (by omega)
  | .lst ds, .tup es, v, w, u, t, h, h', r, r', hu => by
    obtain ⟨a1, xs1, rfl, _, _, its1, _, p1⟩ := I.repL h
    cases r
    obtain ⟨a2, xs2, rfl, _, _, its2, _, p2⟩ := I.repT h'
    cases r'
    simp only [eqD]
    exact SeqAt.EqAt.list_tuple  p1 p2 (by omega)
  | .lst ds, .lst es, v, w, u, t, h, h', r, r', hu => by
    obtain ⟨a1, xs1, rfl, s1, q1, its1, v1, p1⟩ := I.repL h
    obtain ⟨a2, xs2, rfl, s2, q2, its2, v2, p2⟩ := I.repL h'
    cases r
    cases r'
    by_cases hab : a1 = a2
    · subst hab
      have e := Rep.inj I h h'
      rw [e, eqD_refl]
      exact .same _
    · exact .of_refs hab (lists_rc A I q1 q2 v1 v2 p1 p2 (by omega) fun d hd e v w u t hv hw rv rw' => eqAt_rep (A := A.in1) I d e v w u t hv hw rv rw' (by
        have := dep_mem hd
        simp only [dep] at hu
        show A.units + 1 + dep d < cLine
        omega))
  | .tup ds, .tup es, v, w, u, t, h, h', r, r', hu => by
    obtain ⟨a1, xs1, rfl, s1, q1, its1, v1, p1⟩ := I.repT h
    obtain ⟨a2, xs2, rfl, s2, q2, its2, v2, p2⟩ := I.repT h'
    cases r
    cases r'
    by_cases hab : a1 = a2
    · subst hab
      have e := Rep.inj I h h'
      rw [e, eqD_refl]
      exact .same _
    · exact .of_refs hab (tuples_rc A I q1 q2 v1 v2 p1 p2 (by omega) fun d hd e v w u t hv hw rv rw' => eqAt_rep (A := A.in1) I d e v w u t hv hw rv rw' (by
        have := dep_mem hd
        simp only [dep] at hu
        show A.units + 1 + dep d < cLine
        omega))
termination_by d => sizeOf d
decreasing_by
  all_goals
    have := List.sizeOf_lt_of_mem hd
    simp_wf
    omega

theorem rcAt_rep {A : Around} (I : Inv X pins σ H s) : ∀ (d e : Dt) (v w : V) (u t : Value), Rep X.K H d v → Rep X.K H e w → RelV v u → RelV w t → A.units + dep d < cLine → SeqAt.RcAt A s u t (eqD d e)
  | .non, .non, v, w, u, t, h, h', r, r', hu => by
    simp only [Rep] at h
    subst h
    cases r
    simp only [Rep] at h'
    subst h'
    cases r'
    simp only [eqD]
    exact SeqAt.RcAt.none_none 
  | .non, .bl _, v, w, u, t, h, h', r, r', hu => by
    simp only [Rep] at h
    subst h
    cases r
    simp only [Rep] at h'
    subst h'
    cases r'
    simp only [eqD]
    exact SeqAt.RcAt.none_bool _
  | .non, .int _, v, w, u, t, h, h', r, r', hu => by
    simp only [Rep] at h
    subst h
    cases r
    simp only [Rep] at h'
    subst h'
    obtain ⟨t2, rfl⟩ := r'
    simp only [eqD]
    exact SeqAt.RcAt.none_int _ _
  | .non, .str lb, v, w, u, t, h, h', r, r', hu => by
    simp only [Rep] at h
    subst h
    cases r
    simp only [Rep] at h'
    subst h'
    obtain ⟨t2, rfl⟩ := r'
    simp only [eqD]
    exact SeqAt.RcAt.none_str _ _
  | .non, .tup es, v, w, u, t, h, h', r, r', hu => by
    simp only [Rep] at h
    subst h
    cases r
    obtain ⟨a2, xs2, rfl, _, _, its2, _, p2⟩ := I.repT h'
    cases r'
    simp only [eqD]
    exact SeqAt.RcAt.none_tuple  p2 (by omega)
  | .non, .lst es, v, w, u, t, h, h', r, r', hu => by
    simp only [Rep] at h
    subst h
    cases r
    obtain ⟨a2, xs2, rfl, _, _, its2, _, p2⟩ := I.repL h'
    cases r'
    simp only [eqD]
    exact SeqAt.RcAt.none_list  p2 (by omega)
  | .bl _, .non, v, w, u, t, h, h', r, r', hu => by
    simp only [Rep] at h
    subst h
    cases r
    simp only [Rep] at h'
    subst h'
    cases r'
    simp only [eqD]
    exact SeqAt.RcAt.bool_none _
  | .bl _, .bl _, v, w, u, t, h, h', r, r', hu => by
    simp only [Rep] at h
    subst h
    cases r
    simp only [Rep] at h'
    subst h'
    cases r'
    simp only [eqD]
    exact SeqAt.RcAt.bool_bool _ _
  | .bl _, .int _, v, w, u, t, h, h', r, r', hu => by
    simp only [Rep] at h
    subst h
    cases r
    simp only [Rep] at h'
    subst h'
    obtain ⟨t2, rfl⟩ := r'
    simp only [eqD]
    exact SeqAt.RcAt.bool_int _ _ _
  | .bl _, .str lb, v, w, u, t, h, h', r, r', hu => by
    simp only [Rep] at h
    subst h
    cases r
    simp only [Rep] at h'
    subst h'
    obtain ⟨t2, rfl⟩ := r'
    simp only [eqD]
    exact SeqAt.RcAt.bool_str _ _ _
  | .bl _, .tup es, v, w, u, t, h, h', r, r', hu => by
    simp only [Rep] at h
    subst h
    cases r
    obtain ⟨a2, xs2, rfl, _, _, its2, _, p2⟩ := I.repT h'
    cases r'
    simp only [eqD]
    exact SeqAt.RcAt.bool_tuple _ p2 (by omega)
  | .bl _, .lst es, v, w, u, t, h, h', r, r', hu => by
    simp only [Rep] at h
    subst h
    cases r
    obtain ⟨a2, xs2, rfl, _, _, its2, _, p2⟩ := I.repL h'
    cases r'
    simp only [eqD]
    exact SeqAt.RcAt.bool_list _ p2 (by omega)
  | .int _, .non, v, w, u, t, h, h', r, r', hu => by
    simp only [Rep] at h
    subst h
    obtain ⟨t1, rfl⟩ := r
    simp only [Rep] at h'
    subst h'
    cases r'
    simp only [eqD]
    exact SeqAt.RcAt.int_none _ _
  | .int _, .bl _, v, w, u, t, h, h', r, r', hu => by
    simp only [Rep] at h
    subst h
    obtain ⟨t1, rfl⟩ := r
    simp only [Rep] at h'
    subst h'
    cases r'
    simp only [eqD]
    exact SeqAt.RcAt.int_bool _ _ _
  | .int _, .int _, v, w, u, t, h, h', r, r', hu => by
    simp only [Rep] at h
    subst h
    obtain ⟨t1, rfl⟩ := r
    simp only [Rep] at h'
    subst h'
    obtain ⟨t2, rfl⟩ := r'
    simp only [eqD]
    exact SeqAt.RcAt.int_int _ _ _ _
  | .int _, .str lb, v, w, u, t, h, h', r, r', hu => by
    simp only [Rep] at h
    subst h
    obtain ⟨t1, rfl⟩ := r
    simp only [Rep] at h'
    subst h'
    obtain ⟨t2, rfl⟩ := r'
    simp only [eqD]
    exact SeqAt.RcAt.int_str _ _ _ _
  | .int _, .tup es, v, w, u, t, h, h', r, r', hu => by
    simp only [Rep] at h
    subst h
    obtain ⟨t1, rfl⟩ := r
    obtain ⟨a2, xs2, rfl, _, _, its2, _, p2⟩ := I.repT h'
    cases r'
    simp only [eqD]
    exact SeqAt.RcAt.int_tuple _ _ p2 (by omega)
  | .int _, .lst es, v, w, u, t, h, h', r, r', hu => by
    simp only [Rep] at h
    subst h
    obtain ⟨t1, rfl⟩ := r
    obtain ⟨a2, xs2, rfl, _, _, its2, _, p2⟩ := I.repL h'
    cases r'
    simp only [eqD]
    exact SeqAt.RcAt.int_list _ _ p2 (by omega)
  | .str la, .non, v, w, u, t, h, h', r, r', hu => by
    simp only [Rep] at h
    subst h
    obtain ⟨t1, rfl⟩ := r
    simp only [Rep] at h'
    subst h'
    cases r'
    simp only [eqD]
    exact SeqAt.RcAt.str_none _ _
  | .str la, .bl _, v, w, u, t, h, h', r, r', hu => by
    simp only [Rep] at h
    subst h
    obtain ⟨t1, rfl⟩ := r
    simp only [Rep] at h'
    subst h'
    cases r'
    simp only [eqD]
    exact SeqAt.RcAt.str_bool _ _ _
  | .str la, .int _, v, w, u, t, h, h', r, r', hu => by
    simp only [Rep] at h
    subst h
    obtain ⟨t1, rfl⟩ := r
    simp only [Rep] at h'
    subst h'
    obtain ⟨t2, rfl⟩ := r'
    simp only [eqD]
    exact SeqAt.RcAt.str_int _ _ _ _
  | .str la, .str lb, v, w, u, t, h, h', r, r', hu => by
    simp only [Rep] at h
    subst h
    obtain ⟨t1, rfl⟩ := r
    simp only [Rep] at h'
    subst h'
    obtain ⟨t2, rfl⟩ := r'
    have z := SeqAt.RcAt.str_str (A := A) (s := s) ⟨la.toArray⟩ t1 ⟨lb.toArray⟩ t2
    rw [str_beqS] at z
    simpa only [eqD] using z
  | .str la, .tup es, v, w, u, t, h, h', r, r', hu => by
    simp only [Rep] at h
    subst h
    obtain ⟨t1, rfl⟩ := r
    obtain ⟨a2, xs2, rfl, _, _, its2, _, p2⟩ := I.repT h'
    cases r'
    simp only [eqD]
    exact SeqAt.RcAt.str_tuple _ _ p2 (by omega)
  | .str la, .lst es, v, w, u, t, h, h', r, r', hu => by
    simp only [Rep] at h
    subst h
    obtain ⟨t1, rfl⟩ := r
    obtain ⟨a2, xs2, rfl, _, _, its2, _, p2⟩ := I.repL h'
    cases r'
    simp only [eqD]
    exact SeqAt.RcAt.str_list _ _ p2 (by omega)
  | .tup ds, .non, v, w, u, t, h, h', r, r', hu => by
    obtain ⟨a1, xs1, rfl, _, _, its1, _, p1⟩ := I.repT h
    cases r
    simp only [Rep] at h'
    subst h'
    cases r'
    simp only [eqD]
    exact SeqAt.RcAt.tuple_none  p1 (by omega)
  | .tup ds, .bl _, v, w, u, t, h, h', r, r', hu => by
    obtain ⟨a1, xs1, rfl, _, _, its1, _, p1⟩ := I.repT h
    cases r
    simp only [Rep] at h'
    subst h'
    cases r'
    simp only [eqD]
    exact SeqAt.RcAt.tuple_bool _ p1 (by omega)
  | .tup ds, .int _, v, w, u, t, h, h', r, r', hu => by
    obtain ⟨a1, xs1, rfl, _, _, its1, _, p1⟩ := I.repT h
    cases r
    simp only [Rep] at h'
    subst h'
    obtain ⟨t2, rfl⟩ := r'
    simp only [eqD]
    exact SeqAt.RcAt.tuple_int _ _ p1 (by omega)
  | .tup ds, .str lb, v, w, u, t, h, h', r, r', hu => by
    obtain ⟨a1, xs1, rfl, _, _, its1, _, p1⟩ := I.repT h
    cases r
    simp only [Rep] at h'
    subst h'
    obtain ⟨t2, rfl⟩ := r'
    simp only [eqD]
    exact SeqAt.RcAt.tuple_str _ _ p1 (by omega)
  | .tup ds, .lst es, v, w, u, t, h, h', r, r', hu => by
    obtain ⟨a1, xs1, rfl, _, _, its1, _, p1⟩ := I.repT h
    cases r
    obtain ⟨a2, xs2, rfl, _, _, its2, _, p2⟩ := I.repL h'
    cases r'
    simp only [eqD]
    exact SeqAt.RcAt.tuple_list  p1 p2 (by omega)
  | .lst ds, .non, v, w, u, t, h, h', r, r', hu => by
    obtain ⟨a1, xs1, rfl, _, _, its1, _, p1⟩ := I.repL h
    cases r
    simp only [Rep] at h'
    subst h'
    cases r'
    simp only [eqD]
    exact SeqAt.RcAt.list_none  p1 (by omega)
  | .lst ds, .bl _, v, w, u, t, h, h', r, r', hu => by
    obtain ⟨a1, xs1, rfl, _, _, its1, _, p1⟩ := I.repL h
    cases r
    simp only [Rep] at h'
    subst h'
    cases r'
    simp only [eqD]
    exact SeqAt.RcAt.list_bool _ p1 (by omega)
  | .lst ds, .int _, v, w, u, t, h, h', r, r', hu => by
    obtain ⟨a1, xs1, rfl, _, _, its1, _, p1⟩ := I.repL h
    cases r
    simp only [Rep] at h'
    subst h'
    obtain ⟨t2, rfl⟩ := r'
    simp only [eqD]
    exact SeqAt.RcAt.list_int _ _ p1 (by omega)
  | .lst ds, .str lb, v, w, u, t, h, h', r, r', hu => by
    obtain ⟨a1, xs1, rfl, _, _, its1, _, p1⟩ := I.repL h
    cases r
    simp only [Rep] at h'
    subst h'
    obtain ⟨t2, rfl⟩ := r'
    simp only [eqD]
    exact SeqAt.RcAt.list_str _ _ p1 (by omega)
  | .lst ds, .tup es, v, w, u, t, h, h', r, r', hu => by
    obtain ⟨a1, xs1, rfl, _, _, its1, _, p1⟩ := I.repL h
    cases r
    obtain ⟨a2, xs2, rfl, _, _, its2, _, p2⟩ := I.repT h'
    cases r'
    simp only [eqD]
    exact SeqAt.RcAt.list_tuple  p1 p2 (by omega)
  | .lst ds, .lst es, v, w, u, t, h, h', r, r', hu => by
    obtain ⟨a1, xs1, rfl, s1, q1, its1, v1, p1⟩ := I.repL h
    obtain ⟨a2, xs2, rfl, s2, q2, its2, v2, p2⟩ := I.repL h'
    cases r
    cases r'
    exact lists_rc A I q1 q2 v1 v2 p1 p2 (by omega) fun d hd e v w u t hv hw rv rw' => eqAt_rep (A := A.in1) I d e v w u t hv hw rv rw' (by
        have := dep_mem hd
        simp only [dep] at hu
        show A.units + 1 + dep d < cLine
        omega)
  | .tup ds, .tup es, v, w, u, t, h, h', r, r', hu => by
    obtain ⟨a1, xs1, rfl, s1, q1, its1, v1, p1⟩ := I.repT h
    obtain ⟨a2, xs2, rfl, s2, q2, its2, v2, p2⟩ := I.repT h'
    cases r
    cases r'
    exact tuples_rc A I q1 q2 v1 v2 p1 p2 (by omega) fun d hd e v w u t hv hw rv rw' => eqAt_rep (A := A.in1) I d e v w u t hv hw rv rw' (by
        have := dep_mem hd
        simp only [dep] at hu
        show A.units + 1 + dep d < cLine
        omega)
theorem neAt_rep {A : Around} (I : Inv X pins σ H s) : ∀ (d e : Dt) (v w : V) (u t : Value), Rep X.K H d v → Rep X.K H e w → RelV v u → RelV w t → A.units + dep d < cLine → SeqAt.RcNeAt A s u t (!eqD d e)
  | .non, .non, v, w, u, t, h, h', r, r', hu => by
    simp only [Rep] at h
    subst h
    cases r
    simp only [Rep] at h'
    subst h'
    cases r'
    simp only [eqD]
    exact SeqAt.RcNeAt.none_none 
  | .non, .bl _, v, w, u, t, h, h', r, r', hu => by
    simp only [Rep] at h
    subst h
    cases r
    simp only [Rep] at h'
    subst h'
    cases r'
    simp only [eqD]
    exact SeqAt.RcNeAt.none_bool _
  | .non, .int _, v, w, u, t, h, h', r, r', hu => by
    simp only [Rep] at h
    subst h
    cases r
    simp only [Rep] at h'
    subst h'
    obtain ⟨t2, rfl⟩ := r'
    simp only [eqD]
    exact SeqAt.RcNeAt.none_int _ _
  | .non, .str lb, v, w, u, t, h, h', r, r', hu => by
    simp only [Rep] at h
    subst h
    cases r
    simp only [Rep] at h'
    subst h'
    obtain ⟨t2, rfl⟩ := r'
    simp only [eqD]
    exact SeqAt.RcNeAt.none_str _ _
  | .non, .tup es, v, w, u, t, h, h', r, r', hu => by
    simp only [Rep] at h
    subst h
    cases r
    obtain ⟨a2, xs2, rfl, _, _, its2, _, p2⟩ := I.repT h'
    cases r'
    simp only [eqD]
    exact SeqAt.RcNeAt.none_tuple  p2 (by omega)
  | .non, .lst es, v, w, u, t, h, h', r, r', hu => by
    simp only [Rep] at h
    subst h
    cases r
    obtain ⟨a2, xs2, rfl, _, _, its2, _, p2⟩ := I.repL h'
    cases r'
    simp only [eqD]
    exact SeqAt.RcNeAt.none_list  p2 (by omega)
  | .bl _, .non, v, w, u, t, h, h', r, r', hu => by
    simp only [Rep] at h
    subst h
    cases r
    simp only [Rep] at h'
    subst h'
    cases r'
    simp only [eqD]
    exact SeqAt.RcNeAt.bool_none _
  | .bl _, .bl _, v, w, u, t, h, h', r, r', hu => by
    simp only [Rep] at h
    subst h
    cases r
    simp only [Rep] at h'
    subst h'
    cases r'
    simp only [eqD]
    exact SeqAt.RcNeAt.bool_bool _ _
  | .bl _, .int _, v, w, u, t, h, h', r, r', hu => by
    simp only [Rep] at h
    subst h
    cases r
    simp only [Rep] at h'
    subst h'
    obtain ⟨t2, rfl⟩ := r'
    simp only [eqD]
    exact SeqAt.RcNeAt.bool_int _ _ _
  | .bl _, .str lb, v, w, u, t, h, h', r, r', hu => by
    simp only [Rep] at h
    subst h
    cases r
    simp only [Rep] at h'
    subst h'
    obtain ⟨t2, rfl⟩ := r'
    simp only [eqD]
    exact SeqAt.RcNeAt.bool_str _ _ _
  | .bl _, .tup es, v, w, u, t, h, h', r, r', hu => by
    simp only [Rep] at h
    subst h
    cases r
    obtain ⟨a2, xs2, rfl, _, _, its2, _, p2⟩ := I.repT h'
    cases r'
    simp only [eqD]
    exact SeqAt.RcNeAt.bool_tuple _ p2 (by omega)
  | .bl _, .lst es, v, w, u, t, h, h', r, r', hu => by
    simp only [Rep] at h
    subst h
    cases r
    obtain ⟨a2, xs2, rfl, _, _, its2, _, p2⟩ := I.repL h'
    cases r'
    simp only [eqD]
    exact SeqAt.RcNeAt.bool_list _ p2 (by omega)
  | .int _, .non, v, w, u, t, h, h', r, r', hu => by
    simp only [Rep] at h
    subst h
    obtain ⟨t1, rfl⟩ := r
    simp only [Rep] at h'
    subst h'
    cases r'
    simp only [eqD]
    exact SeqAt.RcNeAt.int_none _ _
  | .int _, .bl _, v, w, u, t, h, h', r, r', hu => by
    simp only [Rep] at h
    subst h
    obtain ⟨t1, rfl⟩ := r
    simp only [Rep] at h'
    subst h'
    cases r'
    simp only [eqD]
    exact SeqAt.RcNeAt.int_bool _ _ _
  | .int _, .int _, v, w, u, t, h, h', r, r', hu => by
    simp only [Rep] at h
    subst h
    obtain ⟨t1, rfl⟩ := r
    simp only [Rep] at h'
    subst h'
    obtain ⟨t2, rfl⟩ := r'
    simp only [eqD]
    exact SeqAt.RcNeAt.int_int _ _ _ _
  | .int _, .str lb, v, w, u, t, h, h', r, r', hu => by
    simp only [Rep] at h
    subst h
    obtain ⟨t1, rfl⟩ := r
    simp only [Rep] at h'
    subst h'
    obtain ⟨t2, rfl⟩ := r'
    simp only [eqD]
    exact SeqAt.RcNeAt.int_str _ _ _ _
  | .int _, .tup es, v, w, u, t, h, h', r, r', hu => by
    simp only [Rep] at h
    subst h
    obtain ⟨t1, rfl⟩ := r
    obtain ⟨a2, xs2, rfl, _, _, its2, _, p2⟩ := I.repT h'
    cases r'
    simp only [eqD]
    exact SeqAt.RcNeAt.int_tuple _ _ p2 (by omega)
  | .int _, .lst es, v, w, u, t, h, h', r, r', hu => by
    simp only [Rep] at h
    subst h
    obtain ⟨t1, rfl⟩ := r
    obtain ⟨a2, xs2, rfl, _, _, its2, _, p2⟩ := I.repL h'
    cases r'
    simp only [eqD]
    exact SeqAt.RcNeAt.int_list _ _ p2 (by omega)
  | .str la, .non, v, w, u, t, h, h', r, r', hu => by
    simp only [Rep] at h
    subst h
    obtain ⟨t1, rfl⟩ := r
    simp only [Rep] at h'
    subst h'
    cases r'
    simp only [eqD]
    exact SeqAt.RcNeAt.str_none _ _
  | .str la, .bl _, v, w, u, t, h, h', r, r', hu => by
    simp only [Rep] at h
    subst h
    obtain ⟨t1, rfl⟩ := r
    simp only [Rep] at h'
    subst h'
    cases r'
    simp only [eqD]
    exact SeqAt.RcNeAt.str_bool _ _ _
  | .str la, .int _, v, w, u, t, h, h', r, r', hu => by
    simp only [Rep] at h
    subst h
    obtain ⟨t1, rfl⟩ := r
    simp only [Rep] at h'
    subst h'
    obtain ⟨t2, rfl⟩ := r'
    simp only [eqD]
    exact SeqAt.RcNeAt.str_int _ _ _ _
  | .str la, .str lb, v, w, u, t, h, h', r, r', hu => by
    simp only [Rep] at h
    subst h
    obtain ⟨t1, rfl⟩ := r
    simp only [Rep] at h'
    subst h'
    obtain ⟨t2, rfl⟩ := r'
    have z := SeqAt.RcNeAt.str_str (A := A) (s := s) ⟨la.toArray⟩ t1 ⟨lb.toArray⟩ t2
    rw [str_beqS] at z
    simpa only [eqD] using z
  | .str la, .tup es, v, w, u, t, h, h', r, r', hu => by
    simp only [Rep] at h
    subst h
    obtain ⟨t1, rfl⟩ := r
    obtain ⟨a2, xs2, rfl, _, _, its2, _, p2⟩ := I.repT h'
    cases r'
    simp only [eqD]
    exact SeqAt.RcNeAt.str_tuple _ _ p2 (by omega)
  | .str la, .lst es, v, w, u, t, h, h', r, r', hu => by
    simp only [Rep] at h
    subst h
    obtain ⟨t1, rfl⟩ := r
    obtain ⟨a2, xs2, rfl, _, _, its2, _, p2⟩ := I.repL h'
    cases r'
    simp only [eqD]
    exact SeqAt.RcNeAt.str_list _ _ p2 (by omega)
  | .tup ds, .non, v, w, u, t, h, h', r, r', hu => by
    obtain ⟨a1, xs1, rfl, _, _, its1, _, p1⟩ := I.repT h
    cases r
    simp only [Rep] at h'
    subst h'
    cases r'
    simp only [eqD]
    exact SeqAt.RcNeAt.tuple_none  p1 (by omega)
  | .tup ds, .bl _, v, w, u, t, h, h', r, r', hu => by
    obtain ⟨a1, xs1, rfl, _, _, its1, _, p1⟩ := I.repT h
    cases r
    simp only [Rep] at h'
    subst h'
    cases r'
    simp only [eqD]
    exact SeqAt.RcNeAt.tuple_bool _ p1 (by omega)
  | .tup ds, .int _, v, w, u, t, h, h', r, r', hu => by
    obtain ⟨a1, xs1, rfl, _, _, its1, _, p1⟩ := I.repT h
    cases r
    simp only [Rep] at h'
    subst h'
    obtain ⟨t2, rfl⟩ := r'
    simp only [eqD]
    exact SeqAt.RcNeAt.tuple_int _ _ p1 (by omega)
  | .tup ds, .str lb, v, w, u, t, h, h', r, r', hu => by
    obtain ⟨a1, xs1, rfl, _, _, its1, _, p1⟩ := I.repT h
    cases r
    simp only [Rep] at h'
    subst h'
    obtain ⟨t2, rfl⟩ := r'
    simp only [eqD]
    exact SeqAt.RcNeAt.tuple_str _ _ p1 (by omega)
  | .tup ds, .lst es, v, w, u, t, h, h', r, r', hu => by
    obtain ⟨a1, xs1, rfl, _, _, its1, _, p1⟩ := I.repT h
    cases r
    obtain ⟨a2, xs2, rfl, _, _, its2, _, p2⟩ := I.repL h'
    cases r'
    simp only [eqD]
    exact SeqAt.RcNeAt.tuple_list  p1 p2 (by omega)
  | .lst ds, .non, v, w, u, t, h, h', r, r', hu => by
    obtain ⟨a1, xs1, rfl, _, _, its1, _, p1⟩ := I.repL h
    cases r
    simp only [Rep] at h'
    subst h'
    cases r'
    simp only [eqD]
    exact SeqAt.RcNeAt.list_none  p1 (by omega)
  | .lst ds, .bl _, v, w, u, t, h, h', r, r', hu => by
    obtain ⟨a1, xs1, rfl, _, _, its1, _, p1⟩ := I.repL h
    cases r
    simp only [Rep] at h'
    subst h'
    cases r'
    simp only [eqD]
    exact SeqAt.RcNeAt.list_bool _ p1 (by omega)
  | .lst ds, .int _, v, w, u, t, h, h', r, r', hu => by
    obtain ⟨a1, xs1, rfl, _, _, its1, _, p1⟩ := I.repL h
    cases r
    simp only [Rep] at h'
    subst h'
    obtain ⟨t2, rfl⟩ := r'
    simp only [eqD]
    exact SeqAt.RcNeAt.list_int _ _ p1 (by omega)
  | .lst ds, .str lb, v, w, u, t, h, h', r, r', hu => by
    obtain ⟨a1, xs1, rfl, _, _, its1, _, p1⟩ := I.repL h
    cases r
    simp only [Rep] at h'
    subst h'
    obtain ⟨t2, rfl⟩ := r'
    simp only [eqD]
    exact SeqAt.RcNeAt.list_str _ _ p1 (by omega)
  | .lst ds, .tup es, v, w, u, t, h, h', r, r', hu => by
    obtain ⟨a1, xs1, rfl, _, _, its1, _, p1⟩ := I.repL h
    cases r
    obtain ⟨a2, xs2, rfl, _, _, its2, _, p2⟩ := I.repT h'
    cases r'
    simp only [eqD]
    exact SeqAt.RcNeAt.list_tuple  p1 p2 (by omega)
  | .lst ds, .lst es, v, w, u, t, h, h', r, r', hu => by
    obtain ⟨a1, xs1, rfl, s1, q1, its1, v1, p1⟩ := I.repL h
    obtain ⟨a2, xs2, rfl, s2, q2, its2, v2, p2⟩ := I.repL h'
    cases r
    cases r'
    exact lists_ne A I q1 q2 v1 v2 p1 p2 (by omega) fun d hd e v w u t hv hw rv rw' => eqAt_rep (A := A.in1) I d e v w u t hv hw rv rw' (by
        have := dep_mem hd
        simp only [dep] at hu
        show A.units + 1 + dep d < cLine
        omega)
  | .tup ds, .tup es, v, w, u, t, h, h', r, r', hu => by
    obtain ⟨a1, xs1, rfl, s1, q1, its1, v1, p1⟩ := I.repT h
    obtain ⟨a2, xs2, rfl, s2, q2, its2, v2, p2⟩ := I.repT h'
    cases r
    cases r'
    exact tuples_ne A I q1 q2 v1 v2 p1 p2 (by omega) fun d hd e v w u t hv hw rv rw' => eqAt_rep (A := A.in1) I d e v w u t hv hw rv rw' (by
        have := dep_mem hd
        simp only [dep] at hu
        show A.units + 1 + dep d < cLine
        omega)

end
section
variable {X : Cx}
def rEqD (K : PySem.W.Frag) : R2 := fun x y H Q => ∃ d e, Rep K H d x ∧ Rep K H e y ∧ dep d ≤ 50 ∧ Q (.bl (eqD d e)) H
def rNeD (K : PySem.W.Frag) : R2 := fun x y H Q => ∃ d e, Rep K H d x ∧ Rep K H e y ∧ dep d ≤ 50 ∧ Q (.bl (!eqD d e)) H
theorem op_eqD (hu : X.A.units + 50 < cLine) : OpR X (compareOp .Eq) (rEqD X.K) := by
  intro pins s σ H x y v u Q I rx ry ⟨d, e, hd, he, hp, q⟩
  exact rcAt_rep I d e x y v u hd he rx ry (by omega) X.prog X.w X.xe _ ⟨.bl _, H, I, rfl, q⟩
theorem op_neD (hu : X.A.units + 50 < cLine) : OpR X (compareOp .NotEq) (rNeD X.K) := by
  intro pins s σ H x y v u Q I rx ry ⟨d, e, hd, he, hp, q⟩
  exact neAt_rep I d e x y v u hd he rx ry (by omega) X.prog X.w X.xe _ ⟨.bl _, H, I, rfl, q⟩
theorem hu50 {A : Around} {k : Nat} (hr : Room k A) : A.units + 50 < cLine := by have := hr.un; omega
end
end L2

set_option Elab.async false
set_option linter.all false
set_option maxRecDepth 100000
set_option maxHeartbeats 4000000
/-! What the laws' own helpers reckon, as plain functions. -/
namespace L2
open PySem PySem.Spec PyProof.Rows

def cellZ (ns : List Int) (k : Int) : Int :=
  if k < ns.length then ns.getD k.toNat 0 else if ns = [] then 0 else ns.getD (k % (ns.length : Int)).toNat 0 * 31 + k
def drawnZ (ns : List Int) (k : Int) : Int := (cellZ ns k + 6151 * (k + 1)) * 40692 % 2147483399
def pickZ (ns : List Int) (k many : Int) : Int := (drawnZ ns k * drawnZ ns k + drawnZ ns k / 31) % 2147483629 % many
theorem drawnZ_lo (ns : List Int) (k : Int) : 0 ≤ drawnZ ns k := Int.emod_nonneg _ (by decide)
theorem drawnZ_hi (ns : List Int) (k : Int) : drawnZ ns k < 2147483399 := Int.emod_lt_of_pos _ (by decide)
theorem pickZ_lo (ns : List Int) (k : Int) {many : Int} (h : 0 < many) : 0 ≤ pickZ ns k many := Int.emod_nonneg _ (by omega)
theorem pickZ_hi (ns : List Int) (k : Int) {many : Int} (h : 0 < many) : pickZ ns k many < many := Int.emod_lt_of_pos _ h
/-- the sign that a text has at a drawn place -/
def signZ (ns : List Int) (k : Int) (sg : List Nat) : Nat := sg.getD (pickZ ns k sg.length).toNat 0
theorem signZ_mem (ns : List Int) (k : Int) {sg : List Nat} (h : sg ≠ []) : signZ ns k sg ∈ sg := by
  have hp : 0 < (sg.length : Int) := by
    have := List.length_pos_iff.mpr h
    omega
  have h1 := pickZ_lo ns k hp
  have h2 := pickZ_hi ns k hp
  unfold signZ
  have hlt : (pickZ ns k sg.length).toNat < sg.length := by omega
  rw [List.getD_eq_getElem?_getD, List.getElem?_eq_getElem hlt, Option.getD_some]
  exact List.getElem_mem hlt
theorem signZ_at (ns : List Int) (k : Int) {sg : List Nat} (h : sg ≠ []) : atI sg (pickZ ns k sg.length) = some (signZ ns k sg) := by
  have hp : 0 < (sg.length : Int) := by
    have := List.length_pos_iff.mpr h
    omega
  have h1 := pickZ_lo ns k hp
  have h2 := pickZ_hi ns k hp
  have hlt : (pickZ ns k sg.length).toNat < sg.length := by omega
  have e : pickZ ns k sg.length = ((pickZ ns k sg.length).toNat : Int) := by omega
  rw [e]
  refine atI_nat ?_
  unfold signZ
  rw [List.getD_eq_getElem?_getD, List.getElem?_eq_getElem hlt, Option.getD_some]
/-- a drawn wave, by how many ticks behind the first one -/
def waveN (ns : List Int) (a : Int) (sg : List Nat) : Nat → List Nat
  | 0 => [signZ ns a sg]
  | k + 1 => if pickZ ns (a + 2 * ((k : Int) + 1)) 2 = 0 then waveN ns a sg k ++ [(waveN ns a sg k).getLastD 0] else waveN ns a sg k ++ [signZ ns (a + 2 * ((k : Int) + 1) + 1) sg]
def waveL (ns : List Int) (a many : Int) (sg : List Nat) : List Nat := waveN ns a sg (many - 1).toNat
theorem waveN_length (ns : List Int) (a : Int) (sg : List Nat) : ∀ k, (waveN ns a sg k).length = k + 1
  | 0 => rfl
  | k + 1 => by
    unfold waveN
    split <;> simp [waveN_length ns a sg k]
theorem waveN_mem (ns : List Int) (a : Int) {sg : List Nat} (h : sg ≠ []) : ∀ k, ∀ c ∈ waveN ns a sg k, c ∈ sg
  | 0 => by
    intro c hc
    simp [waveN] at hc
    rw [hc]
    exact signZ_mem ns a h
  | k + 1 => by
    intro c hc
    have ih := waveN_mem ns a h k
    unfold waveN at hc
    split at hc
    · rcases List.mem_append.mp hc with hc | hc
      · exact ih c hc
      · simp only [List.mem_singleton] at hc
        have hne : waveN ns a sg k ≠ [] := by
          intro z
          have := waveN_length ns a sg k
          rw [z] at this
          simp at this
        rw [hc, List.getLastD_eq_getLast?, List.getLast?_eq_some_getLast hne, Option.getD_some]
        exact ih _ (List.getLast_mem hne)
    · rcases List.mem_append.mp hc with hc | hc
      · exact ih c hc
      · simp only [List.mem_singleton] at hc
        rw [hc]
        exact signZ_mem ns _ h
theorem waveL_length (ns : List Int) (a : Int) {many : Int} (sg : List Nat) (h : 1 ≤ many) : ((waveL ns a many sg).length : Int) = many := by
  unfold waveL
  rw [waveN_length]
  omega
theorem waveL_mem (ns : List Int) (a many : Int) {sg : List Nat} (h : sg ≠ []) : ∀ c ∈ waveL ns a many sg, c ∈ sg := waveN_mem ns a h _
/-! ### the promises of the helpers -/
section
variable (K : PySem.W.Frag)
/-- the script: a list of ints that stays -/
abbrev Scr (H : Hp) (a : Addr) (ns : List Int) : Prop := SqL K H a (ns.map V.int) ∧ ns.length ≤ 63
end
theorem Same.upd {H : Hp} {a : Addr} {o : HO} (h : H a = none) : Same H (L2.upd H a o) := fun b u e => by rw [upd_ne (ne_of_none e h)]; exact e
theorem Scr.mono {K : PySem.W.Frag} {H H' : Hp} {a : Addr} {ns : List Int} (h : Scr K H a ns) (e : Same H H') : Scr K H' a ns := ⟨e.seq h.1, h.2⟩
theorem big (n : Nat) (h : n ≤ 10000 := by omega) : n ≤ sizeLine := Nat.le_trans h (by decide)
theorem reps_ints {K : PySem.W.Frag} {H : Hp} : ∀ ns : List Int, Reps K H (ns.map Dt.int) (ns.map V.int)
  | [] => .nil
  | n :: ns => .cons rep_int (reps_ints ns)
theorem rep_script {K : PySem.W.Frag} {H : Hp} {a : Addr} {ns : List Int} (h : SqL K H a (ns.map V.int)) : Rep K H (.lst (ns.map Dt.int)) (.ref a) := by
  simp only [Rep]
  exact ⟨a, _, rfl, h, reps_ints ns⟩
theorem eqD_nil (ns : List Int) : eqD (.lst (ns.map Dt.int)) (.lst []) = decide (ns = []) := by
  cases ns <;> simp [eqD, eqDs]
end L2

set_option Elab.async false
set_option linter.all false
set_option maxRecDepth 100000
set_option maxHeartbeats 4000000
/-! Comprehensions by what each turn gives. -/
namespace L2
open PySem PySem.Spec PyProof.Rows

/-- the heap without what stands at D -/
def del (H : Hp) (D : Addr) : Hp := fun b => if b = D then none else H b
theorem Same.del {H H' : Hp} (h : Same H H') (D : Addr) : Same (L2.del H D) (L2.del H' D) := fun b o e => by
  unfold L2.del at e ⊢
  split at e
  · cases e
  · rename_i hb
    rw [if_neg hb]
    exact h b o e
section
variable {α : Type} {J : It} {k : Nat} {fr : List Nat} {g : TG} {tc : TT} {te : TE} {σ : St} {H1 : Hp} {Q : VK}
end
/-! ### the iterators at hand -/
end L2
namespace L2
open PySem PySem.Spec PyProof.Rows
def isStar : Expr → Bool
  | .Starred .. => true
  | _ => false
theorem starEach_cons {e : Expr} {es : List Expr} {env : Env} (h : isStar e = false) : starEach (e :: es) env = (false, eval e env) :: starEach es env := by
  cases e <;> first | rfl | exact absurd h (by simp [isStar])
end L2
namespace L2
open PySem PySem.Spec PyProof.Rows
theorem pax (X : Cx) (e : Expr) (es : List Expr) (te : TE) (t : TA) (h : isStar e = false) (ha : PE X e te) (hr : PA X es t) : PA X (e :: es) (tCons te t) := pa_cons ha hr (starEach_cons h)
end L2

set_option Elab.async false
set_option linter.all false
set_option maxRecDepth 100000
set_option maxHeartbeats 4000000
/-! Refusals: raised, carried, caught, looked at. -/
namespace L2
open PySem PySem.Spec PyProof.Rows PySem.W

section
variable {prog : Program} {w : World} {A : Around} {E : Value → Shared → Prop} {s : Shared} {K : PySem.W.Frag} {x C : Addr} {ox : Obj}
/-- what the written part says of an exception's class -/
structure ExcK (K : PySem.W.Frag) (C : Addr) : Prop where
  cls : (clsIn K C).isSome = true
  ga : findIn K (.ref C) "__getattribute__" = some (some (.builtin "BaseException.__getattribute__"))
  na : findIn K (.ref C) "__getattr__" = some none
  ca : findIn K (.ref C) "__class__" = some (some (.builtin "object.__class__"))
  get : specialIn K (.builtin "object.__class__") "__get__" = some (some (.builtin "getset_descriptor.__get__"))
  tk : takesIn K (.builtin "object.__class__") = some true
  ob : mroIn K C (.type "object") = some true
  be : mroIn K C (.type "BaseException") = some true
/-- an exception's object, as far as it is told -/
def ExcAt (h : Heap) (x C : Addr) : Prop := ∃ ox, h.get? x = some ox ∧ ox.cls = .ref C
theorem ExcAt.type {M : Model} {h : Heap} (I : ExcAt h x C) : Looks M h (typeOf (.ref x)) (.ref C) := by
  obtain ⟨ox, e, c⟩ := I
  exact c ▸ (Looks.ld e).andThen .now
end
/-- a caught exception of the class at C, as it is tracked -/
def excO (C a : Addr) : HO := .ext fun h => ExcAt h a C
section
variable {X : Cx}
end
end L2

set_option Elab.async false
set_option linter.all false
set_option maxRecDepth 100000
set_option maxHeartbeats 4000000
/-! How a refusal leaves a def, and how it is caught. -/
namespace L2
open PySem PySem.Spec PyProof.Rows PySem.W

theorem ObjOk.there {P : Program} {w : World} {H : Hp} {h : Heap} {a : Addr} {o : HO} (x : ObjOk P w H h a o) : ∃ ob, h.get? a = some ob := by
  cases o with
  | lst xs => obtain ⟨_, _, _, _, e⟩ := x; exact ⟨_, e⟩
  | tup xs => obtain ⟨_, _, _, ob, e, _⟩ := x; exact ⟨_, e⟩
  | dK kvs => obtain ⟨_, _, _, _, o, _, _, e, _⟩ := x; exact ⟨_, e⟩
  | dT kvs => obtain ⟨_, _, _, _, o, _, _, e, _⟩ := x; exact ⟨_, e⟩
  | set S n => obtain ⟨o, _, _, _, e, _⟩ := x; exact ⟨_, e⟩
  | ins C dx fs => obtain ⟨_, _, _, e, _⟩ := x; exact ⟨_, e⟩
  | own y => exact x
  | xd fs => obtain ⟨_, ⟨_, _, _, e, _⟩, _⟩ := x; exact ⟨_, e⟩
  | rng lo hi => obtain ⟨_, _, _, e⟩ := x; exact ⟨_, e⟩
  | frz ob u => obtain ⟨e, _⟩ := x; exact ⟨_, e⟩
  | tbl q => obtain ⟨ps, e, _⟩ := x; exact ⟨_, e⟩
  | met f y => exact ⟨_, (show h.get? a = some _ from x)⟩
  | ext φ => exact x.2.1
/-- the callee's refusal, behind it: B is all but the frames, the exception and its records -/
def CX1 (P : Program) (w : World) : CXT := fun outer H s E e s' =>
  ∃ (ea C : Addr) (H' : Hp) (B : Heap) (a0 : Value), e = .ref ea ∧ s'.os = s.os ∧ AllBare s'.gens ∧ Heap.FlyingW B outer ea (.ref C) a0 s'.heap ∧ HOk P w H' B ∧ Un (frs outer) [] H H' s.heap s'.heap ∧
    (∀ b o, s.heap.get? b = some o → H b = none → b ∉ frs outer → B.get? b = some o) ∧ (∀ b o, s.heap.get? b = some o → b ∉ frs outer → ∃ o', B.get? b = some o') ∧ H' ea = none ∧ E (.ref C) none H'

/-- a body whose refusals go as E says -/
structure Rz (X : Cx) (E : XK) : Prop where
  made : ∀ (pins : List (Addr × Obj)) (σ : St) (H : Hp) (s : Shared) (h' : Heap) (e C : Addr) (vs : List Value), Inv X pins σ H s → Heap.MadeExcOf s.heap h' e (.ref C) vs → E (.ref C) none H → X.xe (.ref e) { s with heap := h' }
  pass : Passes (CX1 X.prog X.w) X E
section
variable {P : Program} {w : World} {K : PySem.W.Frag} {mg : Str → Option Value} {base : Heap} {N : List Str} {qual : Str} {scope : Scope} {f : Addr} {cd : Value} {A : Around} {outer : List Env} {s₀ : Shared} {H₀ : Hp} {E : XK}
theorem rz_of : Rz (cxOf (CX1 P w) P w K mg base N qual scope f cd A outer s₀ H₀ E) E where
  made := by
    intro pins σ H s h' e C vs I hx hE
    have hfr := I.ok.frames
    have hF := I.stack
    have hin : ∀ env ∈ (cxOf (CX1 P w) P w K mg base N qual scope f cd A outer s₀ H₀ E).stack, ∀ b, env.frame = some b → b ∈ frs (cxOf (CX1 P w) P w K mg base N qual scope f cd A outer s₀ H₀ E).stack := fun env he b hb => List.mem_filterMap.mpr ⟨env, he, hb⟩
    refine wpAny_leaves_madeW (base := hideAll s.heap (frs (cxOf (CX1 P w) P w K mg base N qual scope f cd A outer s₀ H₀ E).stack)) (h := s.heap) hfr rfl (fun b o q => of_hideAll _ q) (funFrames_hide hF hin) hx fun h'' t fl _ _ up => ?_
    have inB : ∀ b o, s.heap.get? b = some o → b ∉ frs (cxOf (CX1 P w) P w K mg base N qual scope f cd A outer s₀ H₀ E).stack → (hideAll s.heap (frs (cxOf (CX1 P w) P w K mg base N qual scope f cd A outer s₀ H₀ E).stack)).get? b = some o := fun b o q hb => hideAll_get _ q hb
    have old : ∀ b o, s₀.heap.get? b = some o → b ∉ frs outer → b ∉ frs (cxOf (CX1 P w) P w K mg base N qual scope f cd A outer s₀ H₀ E).stack := fun b o q hb z => by
      rcases List.mem_cons.mp (I.stkSub b z) with e | e
      · exact absurd (Heap.lt_size q) (by have := I.ok.above; rw [e]; exact Nat.not_lt.mpr this)
      · exact hb e
    have noex : ∀ b : Addr, b ∉ (cxOf (CX1 P w) P w K mg base N qual scope f cd A outer s₀ H₀ E).ex := fun b z => nomatch z
    have keepX : ∀ b o, s₀.heap.get? b = some o → H₀ b = none → b ∉ frs outer → (hideAll s.heap (frs (cxOf (CX1 P w) P w K mg base N qual scope f cd A outer s₀ H₀ E).stack)).get? b = some o := fun b o q n hb => inB b o (I.base.keep b o q n hb (noex b)) (old b o q hb)
    have thereX : ∀ b o, s₀.heap.get? b = some o → b ∉ frs outer → ∃ o', (hideAll s.heap (frs (cxOf (CX1 P w) P w K mg base N qual scope f cd A outer s₀ H₀ E).stack)).get? b = some o' := fun b o q hb => by
      obtain ⟨o', q'⟩ := I.base.there b o q (noex b)
      exact ⟨o', inB b o' q' (old b o q hb)⟩
    have slotX : ∀ b o, s₀.heap.get? b = some o → H₀ b = none → b ∈ frs outer → ∃ sl, h''.get? b = some { o with slots := sl } := fun b o q n hb => by
      obtain ⟨sl, q'⟩ := I.base.slot b o q n hb (noex b)
      obtain ⟨_, o2, q2, nf⟩ := I.ok.funs.mem hb
      have q2' : s₀.heap.get? b = some o2 := q2
      rw [q] at q2'
      cases q2'
      obtain ⟨sl', q3⟩ := up b _ (hx.keeps b _ q') (by intro vs z; exact nf vs z)
      exact ⟨sl', q3⟩
    refine ⟨e, C, H, _, _, rfl, I.os, I.bare, fl, fun a o q => ?_, ⟨fun b o q n hb _ => fl.1 b o (keepX b o q n hb), fun b o q n hb _ => slotX b o q n hb, fun b o q n _ => I.base.free b o q n (noex b), fun b o q _ => ?_, I.base.tups, I.base.frzs, I.base.tbls⟩, keepX, thereX, ?_, hE⟩
    · have na : ∀ b u, H b = some u → b ∉ frs (cxOf (CX1 P w) P w K mg base N qual scope f cd A outer s₀ H₀ E).stack := fun b u q z => by
        have := I.stkFree b z
        rw [q] at this
        cases this
      refine (I.hok a o q).stay (fun c u hc r => inB c u r ?_) (fun _ z => z) fun _ _ z => z
      rcases hc with rfl | hc
      · exact na _ _ q
      · exact na _ _ hc
    · by_cases hb : b ∈ frs outer
      · have hn : H₀ b = none := I.ok.frf b hb
        obtain ⟨sl, q'⟩ := slotX b o q hn hb
        exact ⟨_, q'⟩
      · obtain ⟨o', q'⟩ := thereX b o q hb
        exact ⟨o', fl.1 b o' q'⟩
    · cases q : H e with
      | none => rfl
      | some u =>
        obtain ⟨ob, z⟩ := (I.hok e u q).there
        rw [hx.new] at z
        cases z
  pass := by
    intro pins σ H s e s' I hc
    obtain ⟨ea, C, H', B, a0, rfl, hos, hb, fl, hok, un, keepB, thereB, hea, hE⟩ := hc
    have hfr := I.ok.frames
    refine wpAny_leaves_onW hfr rfl fl fun h'' fl' up => ?_
    have old : ∀ b o, s₀.heap.get? b = some o → b ∉ frs outer → b ∉ frs (cxOf (CX1 P w) P w K mg base N qual scope f cd A outer s₀ H₀ E).stack := fun b o q hb z => by
      rcases List.mem_cons.mp (I.stkSub b z) with e | e
      · exact absurd (Heap.lt_size q) (by have := I.ok.above; rw [e]; exact Nat.not_lt.mpr this)
      · exact hb e
    have noex : ∀ b : Addr, b ∉ (cxOf (CX1 P w) P w K mg base N qual scope f cd A outer s₀ H₀ E).ex := fun b z => nomatch z
    have keepX : ∀ b o, s₀.heap.get? b = some o → H₀ b = none → b ∉ frs outer → B.get? b = some o := fun b o q n hb => keepB b o (I.base.keep b o q n hb (noex b)) (I.base.free b o q n (noex b)) (old b o q hb)
    have thereX : ∀ b o, s₀.heap.get? b = some o → b ∉ frs outer → ∃ o', B.get? b = some o' := fun b o q hb => by
      obtain ⟨o', q'⟩ := I.base.there b o q (noex b)
      exact thereB b o' q' (old b o q hb)
    have sub : ∀ b, b ∈ frs outer → b ∈ frs (cxOf (CX1 P w) P w K mg base N qual scope f cd A outer s₀ H₀ E).stack := fun b hb => by
      show b ∈ frs (_ :: outer)
      unfold frs
      rw [List.filterMap_cons]
      split
      · exact hb
      · exact List.mem_cons_of_mem _ hb
    have slotX : ∀ b o, s₀.heap.get? b = some o → H₀ b = none → b ∈ frs outer → ∃ sl, h''.get? b = some { o with slots := sl } := fun b o q n hb => by
      obtain ⟨sl, q'⟩ := I.base.slot b o q n hb (noex b)
      obtain ⟨sl2, q2'⟩ := un.slot b _ q' (I.base.free b o q n (noex b)) (sub b hb) (by simp)
      obtain ⟨_, o2, q2, nf⟩ := I.ok.funs.mem hb
      have q2'' : s₀.heap.get? b = some o2 := q2
      rw [q] at q2''
      cases q2''
      obtain ⟨sl', q3⟩ := up b _ q2' (by intro vs z; exact nf vs z)
      exact ⟨sl', q3⟩
    refine ⟨ea, C, H', B, a0, rfl, hos.trans I.os, hb, fl', hok, ⟨fun b o q n hb _ => fl'.1 b o (keepX b o q n hb), fun b o q n hb _ => slotX b o q n hb, fun b o q n _ => ?_, fun b o q _ => ?_, fun b xs q => un.tups b xs (I.base.tups b xs q), fun b o u q => un.frzs b o u (I.base.frzs b o u q), fun b ps q => ?_⟩, keepX, thereX, hea, hE⟩
    · obtain ⟨o', q'⟩ := I.base.there b o q (noex b)
      exact un.free b o' q' (I.base.free b o q n (noex b)) (by simp)
    · by_cases hb : b ∈ frs outer
      · have hn : H₀ b = none := I.ok.frf b hb
        obtain ⟨sl, q'⟩ := slotX b o q hn hb
        exact ⟨_, q'⟩
      · obtain ⟨o', q'⟩ := thereX b o q hb
        exact ⟨o', fl'.1 b o' q'⟩
    · exact un.tbls b ps (I.base.tbls b ps q)
end
end L2

set_option Elab.async false
set_option linter.all false
set_option maxRecDepth 100000
set_option maxHeartbeats 4000000
/-! raise, try, texts with fields. -/
namespace L2
open PySem PySem.Spec PyProof.Rows PySem.W

section
variable {P : Program} {w : World} {K : PySem.W.Frag} {mg : Str → Option Value} {base : Heap}
/-- a def that may refuse -/
theorem Fun.okX {x qual : Str} {st : Stmt} {f : Addr} {fd : FuncData} {N ps : List Str} {k : Nat} {sp : Sp} (F : Fun K x qual st f fd) (S : FnScope N ps (defScope st)) (len : ∀ vs H Q E, sp vs H Q E → vs.length = ps.length)
    (hbody : ∀ (cdv : Value) (A : Around) (outer : List Env) (s : Shared) (H : Hp) (vs : List V) (Q : VK) (E : XK), Room k (A.deeper (envOfC qual (defScope st) s.heap.objs.size f cdv)) → sp vs H Q E →
      Rz (cxOf (CX1 P w) P w K mg base N qual (defScope st) f cdv A outer s H E) E →
      ∃ t, PSs (cxOf (CX1 P w) P w K mg base N qual (defScope st) f cdv A outer s H E) (defBody st) t ∧ t { nx := fun _ H' => Q .non H', rt := Q } (start N vs) H) : FnOk P w K mg base (CX1 P w) (k + 1) f fd ps sp := by
  obtain ⟨oc, od, kV, doc, pm, an, cdv, ct, osl, rfl, lk, hcd⟩ := F.ex
  refine fn_of lk hcd S len fun A outer s H vs Q E hr hsp => ?_
  exact hbody cdv A outer s H vs Q E hr hsp rz_of
end
/-- a def that never refuses, called where refusals may pass -/
theorem FnOk.calm {P : Program} {w : World} {K : PySem.W.Frag} {mg : Str → Option Value} {base : Heap} {CX : CXT} {k : Nat} {f : Addr} {fd : FuncData} {ps : List Str} {sp : Sp} (F : FnOk P w K mg base CX0 k f fd ps sp) : FnOk P w K mg base CX k f fd ps sp :=
  ⟨F.len, fun A outer s H args us vs Q E hr he hb hv hs => codeAny_mono (F.run A outer s H args us vs Q E hr he hb hv hs) fun r s' q => by
    cases r with
    | error e => exact False.elim q
    | ok fl => cases fl <;> exact q⟩

/-- the class of a refusal, as it is written -/
abbrev veMro : List Value := [.type "ValueError", .type "Exception", .type "BaseException", .type "object"]
theorem exc_obj {K : PySem.W.Frag} {h : Heap} {C : Addr} (X : K.In h) (q : excIn K C veMro "ValueError.__new__" = true) :
    ∃ nm qn N bs bm hdct sn sub ab col dd k0 k1 k2 k3 k5 mN, h.get? C = some (excClassObj nm qn C N bs bm hdct sn sub ab col dd k0 k1 k2 k3 k5 "ValueError.__new__") ∧ h.Ns N mN ∧ mN "__init__" = none ∧ OwnTail h veMro bm := by
  unfold excIn at q
  split at q
  · rename_i dd cd sl ho
    split at q
    · rename_i C' bm k0 k1 k2 k3 n k5 hm hs
      simp only [Bool.and_eq_true, beq_iff_eq, Bool.not_eq_true'] at q
      obtain ⟨⟨⟨⟨⟨rfl, rfl⟩, hdel⟩, ht⟩, hok⟩, hni⟩ := q
      obtain ⟨nm, bs, mro, ns, qn, hd, sn, sub, ab, col, del⟩ := cd
      dsimp only at hm hdel hok hni
      subst hm hdel
      have hsl : sl = #[k0, k1, k2, k3, some (.builtin "ValueError.__new__"), k5] := by
        obtain ⟨l⟩ := sl
        simp only at hs
        rw [hs]
      subst hsl
      exact ⟨nm, qn, ns, bs, bm, hd, sn, sub, ab, col, dd, k0, k1, k2, k3, k5, _, X _ _ ho, .of_isNs (isNs_of_in X hok), nsMap_none_of_in X hok hni, tail_of_in X ht⟩
    · cases q
  · cases q
section
variable {X : Cx} {pos : Pos}
def tRaise (C : Addr) (E : XK) (te : TE) : TS := fun _ σ H => te σ H fun _ H1 => E (.ref C) none H1
theorem ps_raise {x : Str} {np cpos : Pos} {C : Addr} {E : XK} {e : Expr} {te : TE} (hc : X.calm = true) (R : Rz X E) (hg : Gl X x) (hm : X.mg x = some (.ref C)) (hK : excIn X.K C veMro "ValueError.__new__" = true) (he : PE X e te) (hst : isStar e = false := by rfl)
    (hd : (x == ("__debug__" : Str)) = false := by decide) : PS X (.Raise (some (.Call (.Name x np) [e] [] cpos)) none pos) (tRaise C E te) := by
  intro pins s σ H D I h
  obtain ⟨nm, qn, N, bs, bm, hdct, sn, sub, ab, col, dd, k0, k1, k2, k3, k5, mN, hC, hN, hni, T⟩ := exc_obj I.mod.kin hK
  have hs : starEach [e] X.env = [(false, eval e X.env)] := by rw [starEach_cons hst]; rfl
  refine wpAny_Raise_call_subT F.excBase_ValueError (C := C) (nm := nm) (q := qn) (N := N) (bs := bs) (bm := bm) (hdct := hdct) (sn := sn) (sub := sub) (ab := ab) (col := col) (dd := dd) (k0 := k0) (k1 := k1) (k2 := k2) (k3 := k3) (k5 := k5) (mN := mN)
    (T.hasType F.excBase_ValueError.hasBase) (I.ok.hd hc) (by rw [hs]; rfl) hni (ld_glob I hg hm ⟨rfl, ?_⟩ hd)
  rw [hs]
  refine Calls.evalArgs_plain (Calls.spliced_cons (thn (he pins s σ H _ I h) fun v s1 ⟨x, H1, I1, r1, q1⟩ => Calls.spliced_nil ?_))
  exact ⟨rfl, by show 1 ≤ sizeLine; decide, I1.bk _ _ hC, hN.keeps I1.bk, T.keeps I1.bk, fun h' ea hmade => R.made pins σ H1 s1 h' ea C _ I1 hmade q1⟩
/-! ### texts with fields -/
theorem pe_fmtI {a : Expr} {ta : TE} (ha : PE X a ta) : PE X (.FormattedValue a (-1) none pos) (fun σ H Q => ta σ H fun x H1 => ∃ i, x = .int i ∧ i.natAbs.log2 < 1920 ∧ Q (.str (toString i)) H1) := by
  intro pins s σ H Q I h
  refine wpAny_FormattedValue_plain (thn (ha pins s σ H _ I h) fun v s1 ⟨x, H1, I1, r1, i, e, hl, q⟩ => ?_)
  subst e
  obtain ⟨t, rfl⟩ := r1
  exact wpAny_formatField_int hl ⟨.str (toString i), H1, I1.tok _, ⟨_, rfl⟩, q⟩
/-- a part of such a text -/
def tBit (t : TE) (k : Hp → Prop) : St → Hp → Prop := fun σ H => t σ H fun x H1 => ∃ l : Str, x = .str l ∧ l.length ≤ 1000 ∧ k H1
theorem len_add (a b : Str) : (a ++ b).length = a.length + b.length := strLen_append a b
theorem pe_fstr3 {a b c : Expr} {ta tb tc : TE} (ha : PE X a ta) (hb : PE X b tb) (hc : PE X c tc) : PE X (.JoinedStr [a, b, c] pos) (fun σ H Q => tBit ta (fun H1 => tBit tb (fun H2 => tBit tc (fun H3 => ∀ z, Q (.str z) H3) σ H2) σ H1) σ H) := by
  intro pins s σ H Q I h
  refine wpAny_JoinedStr ?_
  have e0 : Str.empty.length = 0 := rfl
  refine thn (ha pins s σ H _ I h) fun v s1 ⟨x, H1, I1, r1, l, ex, hl, q1⟩ => ?_
  subst ex
  obtain ⟨t, rfl⟩ := r1
  refine ⟨l, t, rfl, big _ (by rw [len_add, e0]; omega), ?_⟩
  refine thn (hb pins s1 σ H1 _ I1 q1) fun v s2 ⟨y, H2, I2, r2, m, ey, hm, q2⟩ => ?_
  subst ey
  obtain ⟨t', rfl⟩ := r2
  refine ⟨m, t', rfl, big _ (by rw [len_add, len_add, e0]; omega), ?_⟩
  refine thn (hc pins s2 σ H2 _ I2 q2) fun v s3 ⟨z, H3, I3, r3, n, ez, hn, q3⟩ => ?_
  subst ez
  obtain ⟨t'', rfl⟩ := r3
  refine ⟨n, t'', rfl, big _ (by rw [len_add, len_add, len_add, e0]; omega), big _ (by rw [len_add, len_add, len_add, e0]; omega), ?_⟩
  exact ⟨.str _, H3, I3.tok _, ⟨_, rfl⟩, q3 _⟩
end
end L2

set_option Elab.async false
set_option linter.all false
set_option maxRecDepth 100000
set_option maxHeartbeats 4000000
/-! try: .. except T as n: .. -/
namespace L2
open PySem PySem.Spec PyProof.Rows PySem.W

/-- the body of a try: W is what is wanted of an exception, pn all pins -/
abbrev Cx.inTry (X : Cx) (pn : List (Addr × Obj)) (W : Value → Shared → Prop) : Cx := { X with pn := pn, xe := W }
/-- the suite of an except clause -/
abbrev Cx.inSuite (X : Cx) (pn : List (Addr × Obj)) (ea : Addr) : Cx := { X with A := X.A.mark (some (.ref ea)), calm := false, pn := pn, xe := fun _ _ => False }
section
variable {X : Cx} {pins : List (Addr × Obj)} {σ : St} {H : Hp} {s : Shared}
theorem okTry (ok : X.Ok) (pn : List (Addr × Obj)) (W : Value → Shared → Prop) : (X.inTry pn W).Ok :=
  ⟨ok.mod, ok.kind, ok.glob, ok.blt, ok.above, ok.inj, ok.has, ok.cab, ok.hd, ok.frames, ok.stk, ok.exf, ok.bs, ok.bsz, ok.noex, ok.exfs, ok.funs, ok.frf⟩
theorem Inv.inTry (I : Inv X pins σ H s) (W : Value → Shared → Prop) : Inv (X.inTry (X.pn ++ pins) W) [] σ H s :=
  ⟨okTry I.ok _ W, I.os, I.bare, I.base, I.loc, I.cell, I.free, I.freeC, fun p hp => I.pin p (by
    have hp' : p ∈ (X.pn ++ pins) ++ [] := hp
    simpa using hp'), I.hok, I.len⟩
/-- what a caught exception leaves -/
theorem Inv.caught {W : Value → Shared → Prop} {pn pins' : List (Addr × Obj)} {H' : Hp} {s' : Shared} {ea C : Addr} {B h6 : Heap} {a0 : Value} (hstk : X.stack = X.env :: X.outer ∧ X.env.frame = some X.env.locals) (hex : X.ex = [])
    (I : Inv (X.inTry pn W) pins' σ H s) (hos : s'.os = s.os) (hb : AllBare s'.gens) (hok : HOk X.prog X.w H' B) (un : Un (frs X.stack) [] H H' s.heap s'.heap)
    (keepB : ∀ b o, s.heap.get? b = some o → H b = none → b ∉ frs X.stack → B.get? b = some o) (thereB : ∀ b o, s.heap.get? b = some o → b ∉ frs X.stack → ∃ o', B.get? b = some o') (hea : H' ea = none)
    (fl : Heap.FlyingW B X.stack ea (.ref C) a0 h6) (up : s'.heap.UpToSlots h6) :
    Inv (X.inSuite pn ea) [] (List.replicate σ.length none) (upd H' ea (excO C ea)) { s' with heap := h6 } := by
  obtain ⟨f1, f2, f3, oe, vs, T, oT, ts, e1, e2, e3, _⟩ := id fl
  have frm : frs X.stack = X.env.locals :: X.fs := by
    rw [hstk.1]
    unfold frs
    rw [List.filterMap_cons, hstk.2]
    rfl
  -- the frames that run are no records
  have frn : ∀ b, b ∈ frs X.stack → b ≠ ea := fun b hb' z => by
    obtain ⟨_, o, q, nf⟩ := f3.mem hb'
    rw [z, e1] at q
    cases q
    exact nf vs e3
  have nB : ∀ b o, B.get? b = some o → b ≠ ea := fun b o q z => by rw [z, f2] at q; cases q
  have nd : ∀ b o, s.heap.get? b = some o → b ∈ frs X.stack → ∀ vs, o.data ≠ .fields vs := fun b o q hb' => by
    obtain ⟨_, o2, q2, nf⟩ := I.stack.mem hb'
    have q2' : s.heap.get? b = some o2 := q2
    rw [q] at q2'
    cases q2'
    exact nf
  have slot : ∀ b o, s.heap.get? b = some o → H b = none → b ∈ frs X.stack → ∃ sl, h6.get? b = some { o with slots := sl } := fun b o q n hb' => by
    obtain ⟨sl, q'⟩ := un.slot b o q n hb' (by simp)
    obtain ⟨sl', q''⟩ := up b _ q' (by intro vs z; exact nd b o q hb' vs z)
    exact ⟨sl', q''⟩
  have keep : ∀ b o, s.heap.get? b = some o → H b = none → b ∉ frs X.stack → h6.get? b = some o := fun b o q n hb' => f1 b o (keepB b o q n hb')
  have fre : ∀ b o, s.heap.get? b = some o → H b = none → (upd H' ea (excO C ea)) b = none := fun b o q n => by
    have hne : b ≠ ea := by
      by_cases hb' : b ∈ frs X.stack
      · exact frn b hb'
      · exact nB b o (keepB b o q n hb')
    rw [upd_ne hne]
    exact un.free b o q n (by simp)
  have oldf : ∀ b o, X.s₀.heap.get? b = some o → b ∉ X.fs → b ∉ frs X.stack := fun b o q hb' z => by
    rw [frm] at z
    rcases List.mem_cons.mp z with e | e
    · exact absurd (Heap.lt_size q) (by have := I.ok.above; rw [e]; exact Nat.not_lt.mpr this)
    · exact hb' e
  have subf : ∀ b, b ∈ X.fs → b ∈ frs X.stack := fun b hb' => by rw [frm]; exact List.mem_cons_of_mem _ hb'
  have noex : ∀ b : Addr, b ∉ X.ex := fun b z => by rw [hex] at z; cases z
  obtain ⟨m, ⟨oL, es, ep, hoL, hrest⟩, _⟩ := I.loc
  have locIn : X.env.locals ∈ frs X.stack := by rw [frm]; exact List.mem_cons_self
  obtain ⟨slL, hL6⟩ := slot _ _ hoL I.free locIn
  refine ⟨⟨I.ok.mod, I.ok.kind, I.ok.glob, I.ok.blt, I.ok.above, I.ok.inj, I.ok.has, I.ok.cab, (fun z => nomatch z), I.ok.frames, I.ok.stk, I.ok.exf, I.ok.bs, I.ok.bsz, I.ok.noex, I.ok.exfs, I.ok.funs, I.ok.frf⟩, hos.trans I.os, hb,
    ⟨fun b o q n hb' hx => ?_, fun b o q n hb' hx => ?_, fun b o q n hx => ?_, fun b o q hx => ?_, fun b xs q => ?_, fun b o u q => ?_, fun b ps q => ?_⟩, ⟨m, ⟨_, es, ep, hL6, hrest⟩, fun i x v h1 h2 _ => ?_⟩, fun x c hc => ?_, ?_, fun x c hc => ?_, fun p hp => ?_, fun a o q => ?_, ?_⟩
  · exact keep b o (I.base.keep b o q n hb' hx) (I.base.free b o q n hx) (oldf b o q hb')
  · obtain ⟨sl, q'⟩ := I.base.slot b o q n hb' hx
    obtain ⟨sl', q''⟩ := slot b _ q' (I.base.free b o q n hx) (subf b hb')
    exact ⟨sl', q''⟩
  · obtain ⟨o', q'⟩ := I.base.there b o q hx
    exact fre b o' q' (I.base.free b o q n hx)
  · obtain ⟨o', q'⟩ := I.base.there b o q hx
    by_cases hb' : b ∈ frs X.stack
    · have hn := I.stkFree b hb'
      obtain ⟨sl, q''⟩ := slot b o' q' hn hb'
      exact ⟨_, q''⟩
    · obtain ⟨o'', q''⟩ := thereB b o' q' hb'
      exact ⟨o'', f1 b o'' q''⟩
  · have z := un.tups b xs (I.base.tups b xs q)
    rw [upd_ne (ne_of_none z hea)]
    exact z
  · have z := un.frzs b o u (I.base.frzs b o u q)
    rw [upd_ne (ne_of_none z hea)]
    exact z
  · have z := un.tbls b ps (I.base.tbls b ps q)
    rw [upd_ne (ne_of_none z hea)]
    exact z
  · rw [List.getElem?_replicate] at h2
    split at h2 <;> cases h2
  · obtain ⟨v, o, ho, hd⟩ := I.cell x c hc
    by_cases hb' : c ∈ frs X.stack
    · obtain ⟨sl, q''⟩ := slot c o ho (I.freeC x c hc) hb'
      exact ⟨v, _, q'', hd⟩
    · exact ⟨v, o, keep c o ho (I.freeC x c hc) hb', hd⟩
  · exact fre _ _ hoL I.free
  · obtain ⟨v, o, ho, hd⟩ := I.cell x c hc
    exact fre c o ho (I.freeC x c hc)
  · have hp' : p ∈ pn ++ pins' := by
      have hp2 : p ∈ pn ++ [] := hp
      exact List.mem_append_left _ (by simpa using hp2)
    obtain ⟨q, n, ne, nf, d⟩ := I.pin p hp'
    have hb' : p.1 ∉ frs X.stack := fun z => by
      rw [frm] at z
      rcases List.mem_cons.mp z with e | e
      · exact ne e
      · exact nf e
    exact ⟨keep _ _ q n hb', fre _ _ q n, ne, nf, d⟩
  · by_cases ha : a = ea
    · subst ha
      rw [upd_same] at q
      cases q
      exact ⟨⟨oe, e1, e2.1⟩, ⟨oe, e1⟩, fun h1 h2 ⟨o, z1, z2⟩ k => ⟨o, k o z1, z2⟩⟩
    · rw [upd_ne ha] at q
      exact (hok a o q).stay (fun c u _ r => f1 c u r) (fun c r => by rw [upd_ne (ne_of_none r hea)]; exact r) (fun c xs r => by rw [upd_ne (ne_of_none r hea)]; exact r) fun c _ _ r => by rw [upd_ne (ne_of_none r hea)]; exact r
  · show (List.replicate σ.length none).length = X.N.length
    rw [List.length_replicate]
    exact I.len
end
section
variable {X : Cx} {pos hpos np : Pos} {T n : Str} {CT : Addr} {body suite : List Stmt} {b₀ : Stmt} {tb : XK → TS} {ts : TS} {iN : Nat}
end
end L2

set_option Elab.async false
set_option linter.all false
set_option maxRecDepth 100000
set_option maxHeartbeats 4000000
/-! Methods of lists and texts. -/
namespace L2
open PySem PySem.Spec PyProof.Rows PySem.W

theorem countP_eqU {x : V} : ∀ {xs : List V} {us : List Value}, Vals xs us → xs.all flatV = true → us.countP (eqU x) = xs.countP fun y => eqV y x
  | _, _, .nil, _ => rfl
  | y :: xs, u :: us, .cons r t, f => by
    rw [List.all_cons, Bool.and_eq_true] at f
    rw [List.countP_cons, List.countP_cons, eqU_of r f.1, countP_eqU t f.2]
section
variable {X : Cx}
/-! ### ''.join(xs) -/
theorem glued_nil (parts : List (List Nat)) : (Txt.join ⟨([] : List Nat).toArray⟩ (parts.map fun l => (⟨l.toArray⟩ : Str))) = ⟨parts.flatten.toArray⟩ := by
  apply Str_ext
  unfold Txt.join Builtin.Str.glued
  have key : ∀ (ps : List (List Nat)) (acc : Array Nat), (ps.map fun l => (⟨l.toArray⟩ : Str)).foldl (fun acc p => acc ++ (⟨([] : List Nat).toArray⟩ : Str).cps ++ p.cps) acc = acc ++ ps.flatten.toArray := by
    intro ps
    induction ps with
    | nil => intro acc; simp
    | cons l ps ih =>
      intro acc
      rw [List.map_cons, List.foldl_cons, ih]
      simp
  cases parts with
  | nil => rfl
  | cons l ps =>
    show (((l :: ps).map fun l => (⟨l.toArray⟩ : Str)).drop 1 |>.foldl (fun acc p => acc ++ (⟨([] : List Nat).toArray⟩ : Str).cps ++ p.cps) (l.toArray)).toList = _
    rw [List.map_cons, List.drop_one, List.tail_cons, key]
    simp
theorem strsAre_of : ∀ {ls : List (List Nat)} {us : List Value}, Vals (ls.map S) us → StrsAre us (ls.map fun l => (⟨l.toArray⟩ : Str))
  | [], _, .nil => .nil
  | l :: ls, _, .cons r t => by
    obtain ⟨tk, rfl⟩ := r
    exact .cons _ tk (strsAre_of t)
theorem mt_joinS : MtR X "str.join" (fun x vs H Q => ∃ (p : Addr) (ls : List (List Nat)), x = S [] ∧ vs = [.ref p] ∧ SqL X.K H p (ls.map S) ∧ ls.flatten.length ≤ 10000 ∧ Q (S ls.flatten) H) := by
  intro pins s σ H x vs v us Q I rx rv ⟨p, ls, ex, ev, hq, hl, q⟩
  subst ex ev
  obtain ⟨t, rfl⟩ := rx
  obtain ⟨u, rfl, ru⟩ := rv.one
  cases ru
  obtain ⟨its, r, pl, hz⟩ := I.list hq
  have hs : ((ls.map fun l => (⟨l.toArray⟩ : Str)).map (·.length)).sum = ls.flatten.length := by
    rw [List.length_flatten, List.map_map]
    rfl
  refine join_list pl.isList (by simpa using strsAre_of r) ?_ fun t' k => ⟨S ls.flatten, H, I.tok k, ⟨t', ?_⟩, q⟩
  · rw [hs]
    have e0 : (⟨([] : List Nat).toArray⟩ : Str).length = 0 := rfl
    rw [e0]
    omega
  · rw [glued_nil]
/-! ### list(text) -/
end

/-! ### a def that may be called -/
def Cal (P : Program) (w : World) (K : PySem.W.Frag) (mg : Str → Option Value) (base : Heap) (CX : CXT) (k : Nat) (x : Str) (ps : List Str) (sp : Sp) : Prop :=
  ∃ (f : Addr) (fd : FuncData), FnOk P w K mg base CX k f fd ps sp ∧ mg x = some (.ref f) ∧ PySem.W.keepIn K (.ref f) = true ∧ Binds K fd ps []
theorem Cal.calm {P : Program} {w : World} {K : PySem.W.Frag} {mg : Str → Option Value} {base : Heap} {CX : CXT} {k : Nat} {x : Str} {ps : List Str} {sp : Sp} (C : Cal P w K mg base CX0 k x ps sp) : Cal P w K mg base CX k x ps sp := by
  obtain ⟨f, fd, h1, h2⟩ := C
  exact ⟨f, fd, h1.calm, h2⟩
section
variable {X : Cx} {CX : CXT} {k : Nat} {x : Str} {ps : List Str} {sp : Sp} {E : XK} {p pos : Pos} {e : Expr} {es : List Expr} {t : TA}
theorem pe_cal (C : Cal X.prog X.w X.K X.mg X.base CX k x ps sp) (hr : Room k X.A) (hx : Passes CX X E) (ha : PA X (e :: es) t) (hst : isStar e = false := by rfl) (hg : Gl X x := by rfl) (hdb : (x == ("__debug__" : Str)) = false := by decide) (hpl : (backTo pos (starEach es X.env)).any (·.1) = false := by rfl) :
    PE X (.Call (.Name x p) (e :: es) [] pos) (tCall sp [] E t) := by
  obtain ⟨f, fd, h1, h2, h3, h4⟩ := C
  exact pe_call h1 hr hg h2 h3 h4 .nil hx ha hdb (starEach_cons hst) hpl
end
end L2

set_option Elab.async false
set_option linter.all false
set_option maxRecDepth 100000
set_option maxHeartbeats 4000000
/-! Comprehensions over data. -/
namespace L2
open PySem PySem.Spec PyProof.Rows PySem.W

section
variable {K : PySem.W.Frag} {k : Nat} {fr : List Nat} {g : TG} {tc : TT} {te : TE} {σ : St} {H1 : Hp} {Q : VK}
end
/-! ### what the top has -/
def FnT (K : PySem.W.Frag) (mg : Str → Option Value) (x : Str) (st : Stmt) (ps : List Str) : Prop := ∃ f fd, Fun K x x st f fd ∧ mg x = some (.ref f) ∧ Binds K fd ps []
theorem int_len {i : Int} (h1 : -2 ≤ i) (h2 : i ≤ 20) : (Str.ofString (toString i)).length ≤ 1000 ∧ i.natAbs.log2 < 1920 := by
  have h : i = -2 ∨ i = -1 ∨ i = 0 ∨ i = 1 ∨ i = 2 ∨ i = 3 ∨ i = 4 ∨ i = 5 ∨ i = 6 ∨ i = 7 ∨ i = 8 ∨ i = 9 ∨ i = 10 ∨ i = 11 ∨ i = 12 ∨ i = 13 ∨ i = 14 ∨ i = 15 ∨ i = 16 ∨ i = 17 ∨ i = 18 ∨ i = 19 ∨ i = 20 := by omega
  rcases h with h | h | h | h | h | h | h | h | h | h | h | h | h | h | h | h | h | h | h | h | h | h | h
  all_goals
    rw [h]
    constructor <;> decide +kernel
end L2

set_option Elab.async false
set_option linter.all false
set_option maxRecDepth 100000
set_option maxHeartbeats 4000000
/-! Words for refusals; pieces of data. -/
namespace L2
open PySem PySem.Spec PyProof.Rows PySem.W
/-- what the written part says of a refusal's class C, the j-th of seven -/
structure WordK (K : PySem.W.Frag) (C c0 c1 c2 c3 c4 c5 c6 : Addr) (j : Nat) : Prop where
  z : ExcK K C
  lt : j < 7
  w0 : kitOne K (.ref C) (.ref c0) = some (j == 0)
  w1 : kitOne K (.ref C) (.ref c1) = some (j == 1)
  w2 : kitOne K (.ref C) (.ref c2) = some (j == 2)
  w3 : kitOne K (.ref C) (.ref c3) = some (j == 3)
  w4 : kitOne K (.ref C) (.ref c4) = some (j == 4)
  w5 : kitOne K (.ref C) (.ref c5) = some (j == 5)
  w6 : kitOne K (.ref C) (.ref c6) = some (j == 6)
  ve : kitOne K (.ref C) (.type "ValueError") = some true
def spLaw (K : PySem.W.Frag) : Sp := fun vs H Q _ => ∃ (a : Addr) (ns : List Int), vs = [.ref a] ∧ Scr K H a ns ∧ ∀ H', Q (.bl true) H'
end L2

set_option Elab.async false
set_option linter.all false
set_option maxRecDepth 100000
set_option maxHeartbeats 4000000
/-! Cuts of texts; depth of data. -/
namespace L2
open PySem PySem.Spec PyProof.Rows PySem.W
theorem flat_one : ∀ l : List Nat, (l.map fun c => [c]).flatten = l
  | [] => rfl
  | c :: l => by simp only [List.map_cons, List.flatten_cons, flat_one l]; rfl
end L2

set_option Elab.async false
set_option linter.all false
set_option maxRecDepth 100000
set_option maxHeartbeats 4000000
/-! text * number; zip of two lists. -/
namespace L2
open PySem PySem.Spec PyProof.Rows PySem.W
theorem foldl_repS (l : List Nat) : ∀ (k : Nat) (acc : List Nat), List.foldl (fun x1 x2 => x1 ++ x2) acc.toArray (List.replicate k l.toArray) = (acc ++ (List.replicate k l).flatten).toArray
  | 0, acc => by simp
  | k + 1, acc => by
    have e : acc.toArray ++ l.toArray = (acc ++ l).toArray := by simp
    have e2 : (acc ++ l) ++ (List.replicate k l).flatten = acc ++ (List.replicate (k + 1) l).flatten := by
      rw [List.replicate_succ, List.flatten_cons, List.append_assoc]
    rw [← e2, ← foldl_repS l k (acc ++ l), ← e, List.replicate_succ, List.foldl_cons]
section
variable {X : Cx}
def rRepS : R2 := fun x y H Q => ∃ l n, x = S l ∧ y = .int n ∧ -1000 ≤ n ∧ n ≤ 1000 ∧ l.length ≤ 1000 ∧ Q (S (List.replicate n.toNat l).flatten) H
theorem op_repS : OpR X (binaryOp .Mult) rRepS := by
  intro pins s σ H x y v u Q I rx ry ⟨l, n, ex, ey, n0, n1, hl, q⟩
  subst ex ey
  obtain ⟨t, rfl⟩ := rx
  obtain ⟨t', rfl⟩ := ry
  have hlen : (⟨l.toArray⟩ : Str).length = l.length := by simp [Str.length]
  refine P.mul_str ?_ ?_ ?_ ?_
  · rw [decide_eq_false (by omega), decide_eq_false (by omega)]
    rfl
  · intro h1 _
    rw [hlen]
    have : (1000 : Int) ≤ (2 ^ 63 - 1) / n := by
      rw [Int.le_ediv_iff_mul_le (by omega)]
      omega
    omega
  · intro h1 _
    rw [hlen]
    have h2 : l.length * n.toNat ≤ 1000 * 1000 := Nat.mul_le_mul hl (by omega)
    unfold Builtin.Str.tooLong
    exact decide_eq_false (by have : sizeLine = 2 ^ 24 := rfl; omega)
  · by_cases h1 : n < 1
    · rw [if_pos h1]
      refine ⟨by decide, S (List.replicate n.toNat l).flatten, H, I.tok _, ⟨s.toks, ?_⟩, q⟩
      have : n.toNat = 0 := by omega
      rw [this]
      rfl
    · rw [if_neg h1]
      by_cases h2 : (n == 1 || (⟨l.toArray⟩ : Str).length == 0) = true
      · rw [if_pos h2]
        refine ⟨S (List.replicate n.toNat l).flatten, H, I, ⟨t, ?_⟩, q⟩
        have e : (List.replicate n.toNat l).flatten = l := by
          rw [hlen] at h2
          simp only [Bool.or_eq_true, beq_iff_eq] at h2
          rcases h2 with h2 | h2
          · subst h2; simp
          · have : l = [] := List.length_eq_zero_iff.mp h2
            subst this; simp
        rw [e]
      · rw [if_neg h2]
        have e : (⟨(List.replicate n.toNat l.toArray).foldl (· ++ ·) #[]⟩ : Str) = ⟨(List.replicate n.toNat l).flatten.toArray⟩ := by
          have := foldl_repS l n.toNat []
          simp only [List.nil_append] at this
          exact congrArg Str.mk this
        show _ ∧ _
        rw [e]
        refine ⟨?_, S (List.replicate n.toNat l).flatten, H, I.tok _, ⟨_, rfl⟩, q⟩
        show (List.replicate n.toNat l).flatten.toArray.size ≤ sizeLine
        have h3 : n.toNat * l.length ≤ 1000 * 1000 := Nat.mul_le_mul (by omega) hl
        have : sizeLine = 2 ^ 24 := rfl
        simp
        omega
end
/-! ### zip of two lists -/
section
variable {X : Cx} {pins : List (Addr × Obj)} {σ : St} {H : Hp} {s : Shared}
/-- records of ours have turned, a tuple is laid -/
theorem Inv.turnedT {ch : List Addr} {h' : Heap} {t' : Nat} {T : Addr} {o : HO} (I : Inv X pins σ H s) (hf : ∀ b ∈ ch, FpOk X pins H b) (k : ∀ b u, b ∉ ch → s.heap.get? b = some u → h'.get? b = some u) (hT : s.heap.objs.size ≤ T) (new : ObjOk X.prog X.w (upd H T o) h' T o) :
    Inv X pins σ (upd H T o) { s with heap := h', toks := t' } := by
  have hn : H T = none := I.hok.fresh hT
  have nT : ∀ b u, s.heap.get? b = some u → b ≠ T := fun b u e z => absurd (Heap.lt_size e) (by rw [z]; exact Nat.not_lt.mpr hT)
  have nit : ∀ b u, H b = some u → b ∉ ch := fun b u e z => by rw [(hf b z).1] at e; cases e
  have up : ∀ b u, H b = some u → upd H T o b = some u := fun b u e => by rw [upd_ne (ne_of_none e hn)]; exact e
  refine I.step (g' := s.gens) (d' := s.drawn) (ch := ch) (fun b hb => ?_) (fun b u _ _ hc e _ => k b u hc e) (fun b u _ _ hc e _ => ⟨u.slots, k b u hc e⟩) (fun b u _ e n => by rw [upd_ne (nT b u e)]; exact n)
    (fun b u hc e => ⟨u, k b u hc e⟩) (fun b xs e => up b _ e) (fun b _ _ e => up b _ e) (fun b q e => up b _ e) (fun m hm => ?_) (fun b u e => ?_) I.bare
  · obtain ⟨_, f1, _, f3, f4, f5⟩ := hf b hb
    exact ⟨f3, f1, f4, f5⟩
  · obtain ⟨u, es, ep, ho, r⟩ := hm
    exact ⟨u, es, ep, k _ u (fun z => (hf _ z).2.1 rfl) ho, r⟩
  · by_cases hb : b = T
    · subst hb
      rw [upd_same] at e
      cases e
      exact new
    · rw [upd_ne hb] at e
      refine (I.hok b u e).stay (fun c v hc q => k c v ?_ q) (fun c q => up c _ q) (fun c _ q => up c _ q) fun c _ _ q => up c _ q
      rcases hc with z | z
      · rw [z]; exact nit b u e
      · exact nit c _ z
theorem Inv.turnedL {ch : List Addr} {h' : Heap} {t' : Nat} (I : Inv X pins σ H s) (hf : ∀ b ∈ ch, FpOk X pins H b) (k : ∀ b u, b ∉ ch → s.heap.get? b = some u → h'.get? b = some u) :
    Inv X pins σ H { s with heap := h', toks := t' } := by
  have nit : ∀ b u, H b = some u → b ∉ ch := fun b u e z => by rw [(hf b z).1] at e; cases e
  refine I.step (g' := s.gens) (d' := s.drawn) (ch := ch) (fun b hb => ?_) (fun b u _ _ hc e _ => k b u hc e) (fun b u _ _ hc e _ => ⟨u.slots, k b u hc e⟩) (fun b u _ e n => n)
    (fun b u hc e => ⟨u, k b u hc e⟩) (fun b xs e => e) (fun b _ _ e => e) (fun b q e => e) (fun m hm => ?_) (fun b u e => ?_) I.bare
  · obtain ⟨_, f1, _, f3, f4, f5⟩ := hf b hb
    exact ⟨f3, f1, f4, f5⟩
  · obtain ⟨u, es, ep, ho, r⟩ := hm
    exact ⟨u, es, ep, k _ u (fun z => (hf _ z).2.1 rfl) ho, r⟩
  · refine (I.hok b u e).stay (fun c v hc q => k c v ?_ q) (fun c q => q) fun c _ q => q
    rcases hc with z | z
    · rw [z]; exact nit b u e
    · exact nit c _ z
end
section
variable {X : Cx}
end
end L2

set_option Elab.async false
set_option linter.all false
set_option maxRecDepth 100000
set_option maxHeartbeats 4000000
/-! enumerate of a list, of a text. -/
namespace L2
open PySem PySem.Spec PyProof.Rows PySem.W
/-- pairs of a number and an item -/
def Ite (K : PySem.W.Frag) (a : Addr) : It :=
  ⟨fun i H => ∃ xs, SqL K H a xs ∧ i < xs.length,
   fun i H x H' => ∃ T v, x = .ref T ∧ H T = none ∧ H' = upd H T (.tup [.int (i : Nat), v]) ∧ ∀ xs, SqL K H a xs → xs[i]? = some v,
   fun i H => ∃ xs, SqL K H a xs ∧ i = xs.length⟩
def Ites (l : List Nat) : It :=
  ⟨fun i H => i < l.length,
   fun i H x H' => ∃ T c, x = .ref T ∧ H T = none ∧ H' = upd H T (.tup [.int (i : Nat), S [c]]) ∧ l[i]? = some c,
   fun i H => i = l.length⟩
theorem turn_enum {P : Program} {w : World} {K : PySem.W.Frag} {elts : List Expr} {kk : Nat} {tpos : Pos} {e it l : Addr} (hei : e ≠ it) (hle : l ≠ e) (hli : l ≠ it) :
    Turn P w K (.Tuple elts kk tpos) (Ite K l) [e, it] e (fun i h => (∃ old, IsEnum h e it i old) ∧ h.IsListIter it l i) where
  mem := by simp
  obj := fun i h st b hb => by
    obtain ⟨⟨old, he⟩, ⟨o1, e1, c1, d1⟩⟩ := st
    simp only [List.mem_cons, List.not_mem_nil, or_false] at hb
    rcases hb with rfl | rfl
    · exact ⟨_, he, fun v z => nomatch z⟩
    · exact ⟨_, e1, fun v z => by rw [d1] at z; cases z⟩
  keep := fun i h h' st k => by
    obtain ⟨⟨old, he⟩, h1⟩ := st
    exact ⟨⟨old, k e (by simp) _ he⟩, h1.at fun o q => k it (by simp) o q⟩
  item := by
    intro X hP hw hK hc i pins s σ H E I hf st hg
    subst hP hw hK
    obtain ⟨xs, hq1, hi⟩ := hg
    obtain ⟨us, rv1, p1, _⟩ := I.list hq1
    have hl1 := rv1.length
    have WW := WalksT.enumerate (prog := X.prog) (w := X.w) (I.ok.hd hc) e it l hei hle hli us.toArray
    obtain ⟨he, h1⟩ := st
    refine WW.item i s _ E (by simp; omega) ⟨he, h1, p1.isList⟩ fun T vals h' tk hPt hT hTup hMid kk => ?_
    refine ⟨_, rfl, WW.go elts _ tpos i T _ _ E hMid fun h'' st'' kk2 => ?_⟩
    obtain ⟨t, u, hu, rfl⟩ := hPt
    obtain ⟨u', hu', ru⟩ := rv1.get (x := xs[i]) (i := i) (by simp [hi])
    have eu : u = u' := by
      have : us[i]? = some u := by simpa using hu
      rw [hu'] at this
      exact (Option.some.inj this).symm
    subst eu
    have kAll : ∀ b o, b ∉ [e, it] → s.heap.get? b = some o → h''.get? b = some o := fun b o hb q => kk2 b o hb (kk b o hb q)
    have hTap := WW.apart i T _ hMid
    obtain ⟨oT, eT, rT⟩ := hTup
    have I2 : Inv X pins σ (upd H T (.tup [.int (i : Nat), xs[i]])) { s with heap := h'', toks := tk } :=
      I.turnedT (ch := [e, it]) hf kAll hT ⟨by show 2 ≤ sizeLine; decide, [.int i t, u], .cons ⟨t, rfl⟩ (.cons ru .nil), ⟨oT, kk2 T oT hTap eT, rT⟩⟩
    obtain ⟨z1, z2, _⟩ := st''
    refine ⟨.ref T, _, I2, rfl, ⟨T, xs[i], rfl, I.hok.fresh hT, rfl, fun xs' h => by rw [I.list_inj h hq1]; simp [hi]⟩, ⟨z1, z2⟩, fun b hb => ?_⟩
    have bne : b ≠ T := by
      rintro rfl
      have st2 : ∃ o, s.heap.get? b = some o := by
        obtain ⟨old, he⟩ := he
        obtain ⟨o1, e1, _⟩ := h1
        simp only [List.mem_cons, List.not_mem_nil, or_false] at hb
        rcases hb with h | h
        · rw [h]; exact ⟨_, he⟩
        · rw [h]; exact ⟨_, e1⟩
      obtain ⟨o, q⟩ := st2
      exact absurd (Heap.lt_size q) (Nat.not_lt.mpr hT)
    rw [upd_ne bne]
    exact (hf b hb).1
  done := by
    intro X hP hw hK hc i pins s σ H E I hf st hg
    subst hP hw hK
    obtain ⟨xs, hq1, hi⟩ := hg
    obtain ⟨us, rv1, p1, _⟩ := I.list hq1
    have hl1 := rv1.length
    have WW := WalksT.enumerate (prog := X.prog) (w := X.w) (I.ok.hd hc) e it l hei hle hli us.toArray
    have ei : i = us.toArray.size := by simp; omega
    rw [ei] at st
    exact WW.done s _ E ⟨st.1, st.2, p1.isList⟩ fun h' tk kk => ⟨rfl, I.turnedL (ch := [e, it]) hf kk⟩
  self := fun _ _ _ _ _ st h => by
    obtain ⟨⟨old, he⟩, _⟩ := st
    exact wpAny_pyIter_enum he h
theorem turn_enumS {P : Program} {w : World} {K : PySem.W.Frag} {elts : List Expr} {kk : Nat} {tpos : Pos} {e it : Addr} (hei : e ≠ it) (l : List Nat) (ty : String) (t : Tok) (hty : ty = "str_ascii_iterator" ∨ ty = "str_iterator") :
    Turn P w K (.Tuple elts kk tpos) (Ites l) [e, it] e (fun i h => (∃ old, IsEnum h e it i old) ∧ h.IsStrIter it ty ⟨l.toArray⟩ t i) := by
  have WW : ∀ A : Around, A.handled = none → WalksT P w A e [e, it] [e, it] l.length (fun i vals => ∃ t x, (∃ c, l[i]? = some c ∧ ∃ t1, x = Value.str ⟨#[c]⟩ t1) ∧ vals = #[.int i t, x]) (fun i h => (∃ old, IsEnum h e it i old) ∧ h.IsStrIter it ty ⟨l.toArray⟩ t i)
      (fun i T h => (∃ x, IsEnumOut h e it ((i : Int) + 1) x T) ∧ h.IsStrIter it ty ⟨l.toArray⟩ t (i + 1) ∧ T ≠ e ∧ T ≠ it) := fun A hh => by
    rcases hty with rfl | rfl
    · simpa using WalksT.enumerateD (prog := P) (w := w) (A := A) (Draws.strAscii (A := A.in1) hh it ⟨l.toArray⟩ t) e hei (by simpa using hei) (by simp)
    · simpa using WalksT.enumerateD (prog := P) (w := w) (A := A) (Draws.strWide (A := A.in1) hh it ⟨l.toArray⟩ t) e hei (by simpa using hei) (by simp)
  refine ⟨by simp, fun i h st b hb => ?_, fun i h h' st k => ?_, ?_, ?_, ?_⟩
  · obtain ⟨⟨old, he⟩, ⟨o1, e1, c1, d1⟩⟩ := st
    simp only [List.mem_cons, List.not_mem_nil, or_false] at hb
    rcases hb with rfl | rfl
    · exact ⟨_, he, fun v z => nomatch z⟩
    · exact ⟨_, e1, fun v z => by rw [d1] at z; cases z⟩
  · obtain ⟨⟨old, he⟩, ⟨o, e1, r⟩⟩ := st
    exact ⟨⟨old, k e (by simp) _ he⟩, ⟨o, k it (by simp) o e1, r⟩⟩
  · intro X hP hw hK hc i pins s σ H E I hf st hg
    subst hP hw hK
    have W1 := WW X.A (I.ok.hd hc)
    refine W1.item i s _ E hg st fun T vals h' tk hPt hT hTup hMid kk => ?_
    refine ⟨_, rfl, W1.go elts _ tpos i T _ _ E hMid fun h'' st'' kk2 => ?_⟩
    obtain ⟨t2, u, hu, rfl⟩ := hPt
    obtain ⟨c, hcx', tu, rfl⟩ := hu
    have kAll : ∀ b o, b ∉ [e, it] → s.heap.get? b = some o → h''.get? b = some o := fun b o hb q => kk2 b o hb (kk b o hb q)
    have hTap := W1.apart i T _ hMid
    obtain ⟨oT, eT, rT⟩ := hTup
    have I2 : Inv X pins σ (upd H T (.tup [.int (i : Nat), S [c]])) { s with heap := h'', toks := tk } :=
      I.turnedT (ch := [e, it]) hf kAll hT ⟨by show 2 ≤ sizeLine; decide, [.int i t2, .str ⟨#[c]⟩ tu], .cons ⟨t2, rfl⟩ (.cons ⟨tu, rfl⟩ .nil), ⟨oT, kk2 T oT hTap eT, rT⟩⟩
    refine ⟨.ref T, _, I2, rfl, ⟨T, c, rfl, I.hok.fresh hT, rfl, hcx'⟩, st'', fun b hb => ?_⟩
    have bne : b ≠ T := by
      rintro rfl
      have st2 : ∃ o, s.heap.get? b = some o := by
        obtain ⟨⟨old, he⟩, ⟨o1, e1, _⟩⟩ := st
        simp only [List.mem_cons, List.not_mem_nil, or_false] at hb
        rcases hb with h | h
        · rw [h]; exact ⟨_, he⟩
        · rw [h]; exact ⟨_, e1⟩
      obtain ⟨o, q⟩ := st2
      exact absurd (Heap.lt_size q) (Nat.not_lt.mpr hT)
    rw [upd_ne bne]
    exact (hf b hb).1
  · intro X hP hw hK hc i pins s σ H E I hf st hg
    subst hP hw hK
    have ei : i = l.length := hg
    rw [ei] at st
    exact (WW X.A (I.ok.hd hc)).done s _ E st fun h' tk kk => ⟨rfl, I.turnedL (ch := [e, it]) hf kk⟩
  · intro A i s Q E st h
    obtain ⟨⟨old, he⟩, _⟩ := st
    exact wpAny_pyIter_enum he h
section
variable {X : Cx}
theorem ne_nat {n l : Nat} (h : l < n) : l ≠ n + 1 ∧ l ≠ n ∧ n + 1 ≠ n := ⟨by omega, by omega, by omega⟩
def iEnum (K : PySem.W.Frag) (ta : TA) : TI := fun σ H R => ta σ H fun vs H1 => ∃ a xs, vs = [.ref a] ∧ SqL K H1 a xs ∧ R (Ite K a) H1
theorem pi_enum {elts : List Expr} {kk : Nat} {tpos : Pos} {a : Expr} {ta : TA} {p pos : Pos} (hg : Gl X "enumerate") (hm : X.mg "enumerate" = none) (ha : PA X [a] ta) (hs : starEach [a] X.env = [(false, eval a X.env)] := by rfl) :
    PI X (.Tuple elts kk tpos) (.Call (.Name "enumerate" p) [a] [] pos) (iEnum X.K ta) := by
  intro pins s σ H R I h
  refine Call_ (ld_blt I hg hm boot_enumerate (PyProof.Rows.callWith_type1 (thn (ha pos pins s σ H _ I h) fun us s1 ⟨vs, H1, I1, r1, q1⟩ => ?_) hs rfl))
  obtain ⟨l, xs, e, hq1, q⟩ := q1
  subst e
  cases r1 with
  | cons r rr =>
    cases rr
    cases r
    obtain ⟨us, rv1, p1, _⟩ := I1.list hq1
    have b1 : l < s1.heap.objs.size := by obtain ⟨o, e, _⟩ := p1.isList; exact Heap.lt_size e
    obtain ⟨n1, n2, n3⟩ := ne_nat b1
    refine call_enumerate_list p1.isList fun h' he h1 hsz kk => ?_
    refine wpAny_pyIter_enum he ?_
    refine ⟨s1.heap.objs.size + 1, [s1.heap.objs.size + 1, s1.heap.objs.size], _, _, H1, rfl, I1.kept (t' := s1.toks) kk, turn_enum n3 n1 n2, ⟨⟨_, he⟩, h1⟩, fun b hb => ?_, q⟩
    have hb' : s1.heap.objs.size ≤ b := by
      simp only [List.mem_cons, List.not_mem_nil, or_false] at hb
      rcases hb with h | h <;> (rw [h]; first | exact Nat.le_refl _ | exact Nat.le_add_right _ _)
    exact I1.fpOk hb' (I1.hok.fresh hb')
def iEnumS (ta : TA) : TI := fun σ H R => ta σ H fun vs H1 => ∃ l, vs = [S l] ∧ R (Ites l) H1
theorem pi_enumS {elts : List Expr} {kk : Nat} {tpos : Pos} {a : Expr} {ta : TA} {p pos : Pos} (hg : Gl X "enumerate") (hm : X.mg "enumerate" = none) (ha : PA X [a] ta) (hs : starEach [a] X.env = [(false, eval a X.env)] := by rfl) :
    PI X (.Tuple elts kk tpos) (.Call (.Name "enumerate" p) [a] [] pos) (iEnumS ta) := by
  intro pins s σ H R I h
  refine Call_ (ld_blt I hg hm boot_enumerate (PyProof.Rows.callWith_type1 (thn (ha pos pins s σ H _ I h) fun us s1 ⟨vs, H1, I1, r1, q1⟩ => ?_) hs rfl))
  obtain ⟨l, e, q⟩ := q1
  subst e
  cases r1 with
  | cons r rr =>
    cases rr
    obtain ⟨t, rfl⟩ := r
    have n3 : s1.heap.objs.size + 1 ≠ s1.heap.objs.size := by omega
    refine call_enumerate_str fun h' he h1 hsz kk => ?_
    refine wpAny_pyIter_enum he ?_
    refine ⟨s1.heap.objs.size + 1, [s1.heap.objs.size + 1, s1.heap.objs.size], _, _, H1, rfl, I1.kept (t' := s1.toks) kk, turn_enumS n3 l (strIterType ⟨l.toArray⟩) t ?_, ⟨⟨_, he⟩, h1⟩, fun b hb => ?_, q⟩
    · unfold strIterType
      split
      · exact .inl rfl
      · exact .inr rfl
    have hb' : s1.heap.objs.size ≤ b := by
      simp only [List.mem_cons, List.not_mem_nil, or_false] at hb
      rcases hb with h | h <;> (rw [h]; first | exact Nat.le_refl _ | exact Nat.le_add_right _ _)
    exact I1.fpOk hb' (I1.hok.fresh hb')
end
end L2

set_option Elab.async false
set_option linter.all false
set_option maxRecDepth 100000
set_option maxHeartbeats 4000000
/-! From Python's pieces to functions over data. -/
namespace L2
open PySem PySem.Spec PyProof.Rows PySem.W

/-! ### the heap without what is owned elsewhere -/
def hid (H : Hp) (A : List Addr) : Hp := fun b => if b ∈ A then none else H b
theorem hid_ne {H : Hp} {A : List Addr} {b : Addr} (h : b ∉ A) : hid H A b = H b := by unfold hid; rw [if_neg h]
theorem hid_in {H : Hp} {A : List Addr} {b : Addr} (h : b ∈ A) : hid H A b = none := by unfold hid; rw [if_pos h]
theorem of_hid {H : Hp} {A : List Addr} {b : Addr} {o : HO} (h : hid H A b = some o) : b ∉ A ∧ H b = some o := by
  by_cases hb : b ∈ A
  · rw [hid_in hb] at h; cases h
  · rw [hid_ne hb] at h; exact ⟨hb, h⟩
theorem hid_same {H : Hp} {A : List Addr} : Same (hid H A) H := fun b o e => (of_hid e).2
theorem Same.hid {H H' : Hp} (s : Same H H') (A : List Addr) : Same (L2.hid H A) (L2.hid H' A) := fun b o e => by
  obtain ⟨h1, h2⟩ := of_hid e
  rw [hid_ne h1]
  exact s b o h2
abbrev Liv (H : Hp) (A : List Addr) : Prop := ∀ a ∈ A, H a ≠ none
theorem Liv.mono {H H' : Hp} {A : List Addr} (h : Liv H A) (s : Same H H') : Liv H' A := fun a ha z => by
  cases q : H a with
  | none => exact h a ha q
  | some o => rw [s a o q] at z; cases z
theorem Liv.fresh {H : Hp} {A : List Addr} (h : Liv H A) {p : Addr} (hp : H p = none) : p ∉ A := fun z => h p z hp
theorem hid_new {H : Hp} {A : List Addr} (h : Liv H A) {p : Addr} {o : HO} (hp : H p = none) : hid (upd H p o) A p = some o := by
  rw [hid_ne (h.fresh hp)]
  exact upd_same

section
variable (K : PySem.W.Frag)
/-- the names' values; O: what the names own, A: all that is hidden -/
structure Fit (O A : List Addr) (ρ : Rho) (σ : St) (H : Hp) : Prop where
  len : ρ.length = σ.length
  liv : Liv H A
  sub : ∀ a ∈ O, a ∈ A
  val : ∀ (i : Nat) d, ρ[i]? = some (.val d) → ∃ v, σ[i]? = some (some v) ∧ Rep K (hid H A) d v ∧ sm d
  own : ∀ (i : Nat) ds, ρ[i]? = some (.own ds) → ∃ a xs, σ[i]? = some (some (.ref a)) ∧ a ∈ O ∧ H a = some (.lst xs) ∧ Reps K (hid H A) ds xs ∧ sms ds ∧ ds.length ≤ 10000
  apart : ∀ (i j : Nat) ds es a, i ≠ j → ρ[i]? = some (.own ds) → ρ[j]? = some (.own es) → σ[i]? = some (some (.ref a)) → σ[j]? ≠ some (some (.ref a))
end
theorem Fit.mono {K : PySem.W.Frag} {O A : List Addr} {ρ : Rho} {σ : St} {H H' : Hp} (F : Fit K O A ρ σ H) (s : Same H H') : Fit K O A ρ σ H' :=
  ⟨F.len, F.liv.mono s, F.sub, fun i d e => by
    obtain ⟨v, h1, h2, h3⟩ := F.val i d e
    exact ⟨v, h1, h2.mono (s.hid A), h3⟩, fun i ds e => by
    obtain ⟨a, xs, h1, h2, h3, h4, h5⟩ := F.own i ds e
    exact ⟨a, xs, h1, h2, s _ _ h3, h4.mono (s.hid A), h5⟩, F.apart⟩

/-! ### what is owed of an answer -/
def Rg {α : Type} (cls : Nat → Addr) (E : XK) (m : M α) (H : Hp) (P : α → Prop) : Prop := match m with
  | .ok a => P a
  | .ex c => ∀ H', Same H H' → E (.ref (cls c)) none H'
  | .bad => False
theorem Rg.bind {α β : Type} {cls : Nat → Addr} {E : XK} {m : M α} {k : α → M β} {H : Hp} {P : β → Prop} {P' : α → Prop} (h : Rg cls E (m.bd k) H P) (f : ∀ a, m = .ok a → Rg cls E (k a) H P → P' a) : Rg cls E m H P' := by
  cases m with
  | ok a => exact f a rfl h
  | ex c => exact h
  | bad => exact h
theorem Rg.ok {α : Type} {cls : Nat → Addr} {E : XK} {m : M α} {H : Hp} {P P' : α → Prop} (h : Rg cls E m H P) (f : ∀ a, m = .ok a → P a → P' a) : Rg cls E m H P' := by
  cases m with
  | ok a => exact f a rfl h
  | ex c => exact h
  | bad => exact h
theorem Rg.heap {α : Type} {cls : Nat → Addr} {E : XK} {m : M α} {H H' : Hp} {P P' : α → Prop} (h : Rg cls E m H P) (s : Same H H') (f : ∀ a, m = .ok a → P a → P' a) : Rg cls E m H' P' := by
  cases m with
  | ok a => exact f a rfl h
  | ex c => exact fun H2 s2 => h H2 (s.trans s2)
  | bad => exact h
section
variable (K : PySem.W.Frag) (cls : Nat → Addr) (A : List Addr) (E : XK)
def Res (m : M Dt) (H : Hp) (Q : VK) : Prop := Rg cls E m H fun d => ∀ v H', Same H H' → Rep K (hid H' A) d v → sm d → Q v H'
def ResB (m : M Bool) (H : Hp) (Q : Bool → Hp → Prop) : Prop := Rg cls E m H fun b => ∀ H', Same H H' → Q b H'
def ResA (m : M (List Dt)) (H : Hp) (Q : List V → Hp → Prop) : Prop := Rg cls E m H fun ds => ∀ vs H', Same H H' → Reps K (hid H' A) ds vs → sms ds → Q vs H'
def ResO (m : M (Option Int)) (H : Hp) (Q : Option Int → Hp → Prop) : Prop := Rg cls E m H fun o => ∀ H', Same H H' → Q o H'
end
section
variable {K : PySem.W.Frag} {cls : Nat → Addr} {A : List Addr} {E : XK} {H H' : Hp}
theorem Res.mono {m : M Dt} {Q : VK} (h : Res K cls A E m H Q) (s : Same H H') : Res K cls A E m H' Q := Rg.heap h s fun d _ p v H2 s2 => p v H2 (s.trans s2)
theorem ResB.mono {m : M Bool} {Q : Bool → Hp → Prop} (h : ResB cls E m H Q) (s : Same H H') : ResB cls E m H' Q := Rg.heap h s fun d _ p H2 s2 => p H2 (s.trans s2)
theorem ResA.mono {m : M (List Dt)} {Q : List V → Hp → Prop} (h : ResA K cls A E m H Q) (s : Same H H') : ResA K cls A E m H' Q := Rg.heap h s fun d _ p v H2 s2 => p v H2 (s.trans s2)
theorem ResO.mono {m : M (Option Int)} {Q : Option Int → Hp → Prop} (h : ResO cls E m H Q) (s : Same H H') : ResO cls E m H' Q := Rg.heap h s fun d _ p H2 s2 => p H2 (s.trans s2)
end
/-! ### the readings -/
section
variable (K : PySem.W.Frag) (cls : Nat → Addr) (E : XK)
def tM (f : Rho → M Dt) : TE := fun σ H Q => ∃ O A ρ, Fit K O A ρ σ H ∧ Res K cls A E (f ρ) H Q
def tMB (f : Rho → M Bool) : TT := fun σ H Q => ∃ O A ρ, Fit K O A ρ σ H ∧ ResB cls E (f ρ) H Q
def tMA (f : Rho → M (List Dt)) : TA := fun σ H Q => ∃ O A ρ, Fit K O A ρ σ H ∧ ResA K cls A E (f ρ) H Q
def tMO (f : Rho → M (Option Int)) : TO := fun σ H Q => ∃ O A ρ, Fit K O A ρ σ H ∧ ResO cls E (f ρ) H Q
/-- any text -/
def tMU (f : Rho → M Unit) : TE := fun σ H Q => ∃ O A ρ, Fit K O A ρ σ H ∧ Rg cls E (f ρ) H fun _ => ∀ v H', Same H H' → Q v H'
end
abbrev Ev (X : Cx) (cls : Nat → Addr) (E : XK) (e : Expr) (f : Rho → M Dt) : Prop := PE X e (tM X.K cls E f)
abbrev Tv (X : Cx) (cls : Nat → Addr) (E : XK) (e : Expr) (f : Rho → M Bool) : Prop := PT X e (tMB X.K cls E f)
abbrev Wv (X : Cx) (cls : Nat → Addr) (E : XK) (e : Expr) (f : Rho → M Bool) : Prop := PW X e (tMB X.K cls E f)
abbrev Av (X : Cx) (cls : Nat → Addr) (E : XK) (es : List Expr) (f : Rho → M (List Dt)) : Prop := PA X es (tMA X.K cls E f)
theorem PE.imp {X : Cx} {e : Expr} {t t' : TE} (h : PE X e t') (i : ∀ σ H Q, t σ H Q → t' σ H Q) : PE X e t := fun pins s σ H Q I hw => h pins s σ H Q I (i σ H Q hw)
theorem PT.imp {X : Cx} {e : Expr} {t t' : TT} (h : PT X e t') (i : ∀ σ H Q, t σ H Q → t' σ H Q) : PT X e t := fun pins s σ H Q I hw => h pins s σ H Q I (i σ H Q hw)
theorem PW.imp {X : Cx} {e : Expr} {t t' : TT} (h : PW X e t') (i : ∀ σ H Q, t σ H Q → t' σ H Q) : PW X e t := fun wh pins s σ H Q I hw => h wh pins s σ H Q I (i σ H Q hw)
theorem PA.imp {X : Cx} {es : List Expr} {t t' : TA} (h : PA X es t') (i : ∀ σ H Q, t σ H Q → t' σ H Q) : PA X es t := fun pos pins s σ H Q I hw => h pos pins s σ H Q I (i σ H Q hw)
theorem PO.imp {X : Cx} {e : Option Expr} {t t' : TO} (h : PO X e t') (i : ∀ σ H Q, t σ H Q → t' σ H Q) : PO X e t := fun pins s σ H Q I hw => h pins s σ H Q I (i σ H Q hw)
section
variable {X : Cx} {cls : Nat → Addr} {E : XK} {a b c : Expr} {f g h : Rho → M Dt} {pos : Pos}
/-! ### names, constants -/
theorem ev_of {e : Expr} {d : Dt} {v : V} (h : PE X e (tC v)) (r : ∀ H, Rep X.K H d v) (z : sm d) : Ev X cls E e (pC d) := h.imp fun σ H Q ⟨O, A, ρ, F, q⟩ => q v H (.refl _) (r _) z
theorem ev_var {i : Nat} {x : Str} (h : PE X (.Name x pos) (tVar i)) : Ev X cls E (.Name x pos) (getV i) := h.imp fun σ H Q ⟨O, A, ρ, F, q⟩ => by
  unfold getV gv at q
  split at q
  · rename_i d e
    obtain ⟨v, h1, h2, h3⟩ := F.val i d e
    exact ⟨v, h1, q v H (.refl _) h2 h3⟩
  · exact q.elim
theorem ev_int {i j} : Ev X cls E (.Constant (.int i) j pos) (pC (.int i)) := ev_of pe_int (fun _ => rep_int) trivial
theorem ev_bl {i j} : Ev X cls E (.Constant (.bool i) j pos) (pC (.bl i)) := ev_of pe_bl (fun _ => rep_bl) trivial
theorem ev_non {j} : Ev X cls E (.Constant .none j pos) (pC .non) := ev_of pe_non (fun _ => rep_non) trivial
theorem ev_S {l : List Nat} {x : Str} {j} (h : x = ⟨l.toArray⟩ := by decide +kernel) (z : l.length ≤ 10000 := by decide) : Ev X cls E (.Constant (.str x) j pos) (pC (.str l)) := ev_of (pe_S h) (fun _ => rep_str) z
/-! ### two places -/
def OpD (X : Cx) (cls : Nat → Addr) (E : XK) (F : Value → Value → Sem Value) (op : Dt → Dt → M Dt) : Prop :=
  ∃ r, OpR X F r ∧ ∀ A H Q d1 d2 x y, Liv H A → Rep X.K (hid H A) d1 x → Rep X.K (hid H A) d2 y → sm d1 → sm d2 → Res X.K cls A E (op d1 d2) H Q → r x y H Q
theorem t2 {r : R2} {op : Dt → Dt → M Dt} (ho : ∀ A H Q d1 d2 x y, Liv H A → Rep X.K (hid H A) d1 x → Rep X.K (hid H A) d2 y → sm d1 → sm d2 → Res X.K cls A E (op d1 d2) H Q → r x y H Q) (σ : St) (H : Hp) (Q : VK)
    (h : tM X.K cls E (p2 op f g) σ H Q) : tOp r (tM X.K cls E f) (tM X.K cls E g) σ H Q := by
  obtain ⟨O, A, ρ, F, q⟩ := h
  refine ⟨O, A, ρ, F, Rg.bind q fun d1 _ q1 => ?_⟩
  intro v H1 s1 r1 z1
  refine ⟨O, A, ρ, F.mono s1, Rg.bind (Res.mono (Q := Q) q1 s1) fun d2 _ q2 => ?_⟩
  intro u H2 s2 r2 z2
  exact ho A H2 Q d1 d2 v u ((F.liv.mono s1).mono s2) (r1.mono (s2.hid A)) r2 z1 z2 (Res.mono q2 s2)
theorem ev_op {o : Operator} {op : Dt → Dt → M Dt} (ho : OpD X cls E (binaryOp o) op) (ha : Ev X cls E a f) (hb : Ev X cls E b g) : Ev X cls E (.BinOp a o b pos) (p2 op f g) := by
  obtain ⟨r, h1, h2⟩ := ho
  exact (pe_op h1 ha hb).imp (t2 h2)
theorem ev_cmp {o : CmpOp} {op : Dt → Dt → M Dt} (ho : OpD X cls E (compareOp o) op) (ha : Ev X cls E a f) (hb : Ev X cls E b g) (hm : behindInMarks o b = false) : Ev X cls E (.Compare a [o] [b] pos) (p2 op f g) := by
  obtain ⟨r, h1, h2⟩ := ho
  exact (pe_cmpR h1 ha hb hm).imp (t2 h2)
theorem t_test {t : TE} {f : Rho → M Dt} (h : ∀ σ H Q, tM X.K cls E f σ H Q → t σ H Q) (σ : St) (H : Hp) (Q : Bool → Hp → Prop) (q : tMB X.K cls E (tOf f) σ H Q) : tTest t σ H Q := by
  obtain ⟨O, A, ρ, F, q⟩ := q
  refine h σ H _ ⟨O, A, ρ, F, Rg.bind q fun d _ q1 => ?_⟩
  intro v H1 s1 r1 z1
  cases d with
  | bl k =>
    simp only [Rep] at r1
    exact ⟨k, r1, q1 H1 s1⟩
  | _ => exact (show False from q1).elim
theorem tv_cmp {o : CmpOp} {op : Dt → Dt → M Dt} (ho : OpD X cls E (compareOp o) op) (ha : Ev X cls E a f) (hb : Ev X cls E b g) (hm : behindInMarks o b = false) : Tv X cls E (.Compare a [o] [b] pos) (tOf (p2 op f g)) := by
  obtain ⟨r, h1, h2⟩ := ho
  exact (pt_cmpR h1 ha hb hm).imp (t_test (t2 h2))
theorem tv_val (ha : Ev X cls E a f) (he : ∀ whole, isTrue a X.env whole = (do let v ← whole; standAt a.pos; holding [v] (truthy v)) := by intro _; rfl) : Tv X cls E a (tOf f) :=
  (pt_val ha he).imp (t_test fun _ _ _ q => q)
theorem t_chain {r r' : R2} {op op' : Dt → Dt → M Dt} (ho : ∀ A H Q d1 d2 x y, Liv H A → Rep X.K (hid H A) d1 x → Rep X.K (hid H A) d2 y → sm d1 → sm d2 → Res X.K cls A E (op d1 d2) H Q → r x y H Q)
    (ho' : ∀ A H Q d1 d2 x y, Liv H A → Rep X.K (hid H A) d1 x → Rep X.K (hid H A) d2 y → sm d1 → sm d2 → Res X.K cls A E (op' d1 d2) H Q → r' x y H Q) (σ : St) (H : Hp) (Q : VK)
    (q : tM X.K cls E (pChain op op' f g h) σ H Q) : tChain r r' (tM X.K cls E f) (tM X.K cls E g) (tM X.K cls E h) σ H Q := by
  obtain ⟨O, A, ρ, F, q⟩ := q
  refine ⟨O, A, ρ, F, Rg.bind q fun d1 _ q1 => ?_⟩
  intro v H1 s1 r1 z1
  refine ⟨O, A, ρ, F.mono s1, Rg.bind (Res.mono (Q := Q) q1 s1) fun d2 _ q2 => ?_⟩
  intro u H2 s2 r2 z2
  have L2' : Liv H2 A := (F.liv.mono s1).mono s2
  refine ho A H2 _ d1 d2 v u L2' (r1.mono (s2.hid A)) r2 z1 z2 (Rg.bind (Res.mono (Q := Q) q2 s2) fun d _ q3 => ?_)
  intro w H3 s3 r3 z3
  cases d with
  | bl k =>
    simp only [Rep] at r3
    refine ⟨k, r3, ?_⟩
    cases k with
    | false =>
      simp only [Bool.false_eq_true, if_false]
      have q3' : Res X.K cls A E (.ok (.bl false)) H2 Q := q3
      exact q3' (.bl false) H3 s3 rep_bl trivial
    | true =>
      simp only [if_true]
      have q3' : Res X.K cls A E ((h ρ).bd fun z => op' d2 z) H2 Q := q3
      refine ⟨O, A, ρ, ((F.mono s1).mono s2).mono s3, Rg.bind (Res.mono (Q := Q) q3' s3) fun d3 _ q4 => ?_⟩
      intro w' H4 s4 r4 z4
      exact ho' A H4 Q d2 d3 u w' ((L2'.mono s3).mono s4) ((r2.mono (s3.hid A)).mono (s4.hid A)) r4 z2 z4 (Res.mono q4 s4)
  | _ => exact (show False from q3).elim
theorem tv_chain {o o' : CmpOp} {op op' : Dt → Dt → M Dt} (ho : OpD X cls E (compareOp o) op) (ho' : OpD X cls E (compareOp o') op') (ha : Ev X cls E a f) (hb : Ev X cls E b g) (hc : Ev X cls E c h)
    (hm : lastMarks [o, o'] [b, c] = false := by with_unfolding_all rfl) : Tv X cls E (.Compare a [o, o'] [b, c] pos) (tOf (pChain op op' f g h)) := by
  obtain ⟨r, h1, h2⟩ := ho
  obtain ⟨r', h1', h2'⟩ := ho'
  exact (pt_chain h1 h1' ha hb hc hm).imp (t_test (t_chain h2 h2'))
/-! ### and, or, not, if -/
variable {F G : Rho → M Bool}
theorem tb_or {σ : St} {H : Hp} {Q : Bool → Hp → Prop} (q : tMB X.K cls E (tOr' F G) σ H Q) : tOr (tMB X.K cls E F) (tMB X.K cls E G) σ H Q := by
  obtain ⟨O, A, ρ, Ft, q⟩ := q
  refine ⟨O, A, ρ, Ft, Rg.bind q fun b _ q1 => ?_⟩
  intro H1 s1
  cases b with
  | false =>
    simp only [Bool.false_eq_true, if_false] at q1 ⊢
    exact ⟨O, A, ρ, Ft.mono s1, ResB.mono q1 s1⟩
  | true =>
    simp only [if_true] at q1 ⊢
    exact q1 H1 s1
theorem wv_or1 (ha : Tv X cls E a F) : Wv X cls E (.BoolOp .Or [a] pos) F := pw_or1 ha
theorem wv_or {rest : List Expr} (ha : Tv X cls E a F) (hb : Wv X cls E (.BoolOp .Or (b :: rest) pos) G) : Wv X cls E (.BoolOp .Or (a :: b :: rest) pos) (tOr' F G) := (pw_or ha hb).imp fun _ _ _ q => tb_or q
theorem tv_not (ha : Tv X cls E a F) : Tv X cls E (.UnaryOp .Not a pos) (tNt F) := (pt_not ha).imp fun σ H Q ⟨O, A, ρ, Ft, q⟩ => ⟨O, A, ρ, Ft, Rg.bind q fun b _ q1 H1 s1 => q1 H1 s1⟩
theorem ev_one {o} (ha : Ev X cls E a f) : Ev X cls E (.BoolOp o [a] pos) f := pe_one ha
theorem tru_of {d : Dt} {k : Bool → M Dt} {A : List Addr} {H : Hp} {Q : VK} (q : Res X.K cls A E ((truM d).bd k) H Q) {v : V} {H0 : Hp} (r : Rep X.K H0 d v) : ∃ b, d = .bl b ∧ v = .bl b ∧ Res X.K cls A E (k b) H Q := by
  cases d with
  | bl b =>
    simp only [Rep] at r
    exact ⟨b, rfl, r, q⟩
  | _ => exact (show False from q).elim
theorem ev_and {rest : List Expr} (ha : Ev X cls E a f) (hb : Ev X cls E (.BoolOp .And (b :: rest) pos) g) : Ev X cls E (.BoolOp .And (a :: b :: rest) pos) (pAn f g) := (pe_and ha hb).imp fun σ H Q ⟨O, A, ρ, Ft, q⟩ => by
  refine ⟨O, A, ρ, Ft, Rg.bind q fun d _ q1 => ?_⟩
  intro v H1 s1 r1 z1
  obtain ⟨b, rfl, rfl, q2⟩ := tru_of (Q := Q) q1 r1
  refine ⟨b, rfl, ?_⟩
  cases b with
  | false =>
    simp only [Bool.false_eq_true, if_false] at q2 ⊢
    exact q2 _ H1 s1 rep_bl trivial
  | true =>
    simp only [if_true] at q2 ⊢
    exact ⟨O, A, ρ, Ft.mono s1, Res.mono q2 s1⟩
theorem ev_if (hc : Tv X cls E c F) (ha : Ev X cls E a f) (hb : Ev X cls E b g) : Ev X cls E (.IfExp c a b pos) (pIf F f g) := (pe_ifExp hc ha hb).imp fun σ H Q ⟨O, A, ρ, Ft, q⟩ => by
  refine ⟨O, A, ρ, Ft, Rg.bind q fun b _ q1 => ?_⟩
  intro H1 s1
  cases b with
  | false =>
    simp only [Bool.false_eq_true, if_false] at q1 ⊢
    exact ⟨O, A, ρ, Ft.mono s1, Res.mono q1 s1⟩
  | true =>
    simp only [if_true] at q1 ⊢
    exact ⟨O, A, ρ, Ft.mono s1, Res.mono q1 s1⟩
theorem ev_neg (ha : Ev X cls E a f) : Ev X cls E (.UnaryOp .USub a pos) (p1 oNeg f) := (pe_un un_neg ha).imp fun σ H Q ⟨O, A, ρ, Ft, q⟩ => by
  refine ⟨O, A, ρ, Ft, Rg.bind q fun d _ q1 => ?_⟩
  intro v H1 s1 r1 z1
  cases d with
  | int b =>
    simp only [Rep] at r1
    exact ⟨b, r1, q1 _ H1 s1 rep_int trivial⟩
  | _ => exact (show False from q1).elim
/-! ### the operations -/
theorem repI {H : Hp} {i : Int} {v : V} (h : Rep X.K H (.int i) v) : v = .int i := by simpa only [Rep] using h
theorem repS {H : Hp} {l : List Nat} {v : V} (h : Rep X.K H (.str l) v) : v = S l := by simpa only [Rep] using h
theorem repB {H : Hp} {b : Bool} {v : V} (h : Rep X.K H (.bl b) v) : v = .bl b := by simpa only [Rep] using h
theorem repN {H : Hp} {v : V} (h : Rep X.K H .non v) : v = .non := by simpa only [Rep] using h
theorem repL {K : PySem.W.Frag} {H : Hp} {ds : List Dt} {v : V} (h : Rep K H (.lst ds) v) : ∃ a xs, v = .ref a ∧ SqL K H a xs ∧ Reps K H ds xs := by simpa only [Rep] using h
theorem repT {K : PySem.W.Frag} {H : Hp} {ds : List Dt} {v : V} (h : Rep K H (.tup ds) v) : ∃ a xs, v = .ref a ∧ SqT K H a xs ∧ Reps K H ds xs := by simpa only [Rep] using h
theorem szS_of {A : List Addr} {H : Hp} {Q : VK} {l : List Nat} (q : Res X.K cls A E (szS l) H Q) : l.length ≤ 10000 ∧ Q (S l) H := by
  unfold szS at q
  split at q
  · rename_i h
    exact ⟨h, q (S l) H (.refl _) rep_str h⟩
  · exact (show False from q).elim
theorem sm10 {n : Nat} (h : n ≤ 10000) : n ≤ sizeLine := Nat.le_trans h (by decide)
theorem szL_of {A : List Addr} {H : Hp} {Q : VK} {l : List Dt} {xs : List V} (q : Res X.K cls A E (szL l) H Q) (L : Liv H A) (r : Reps X.K (hid H A) l xs) (z : sms l) : l.length ≤ 10000 ∧ ∀ p, H p = none → Q (.ref p) (upd H p (.lst xs)) := by
  unfold szL at q
  split at q
  · rename_i h
    refine ⟨h, fun p hp => q (.ref p) _ (.upd hp) (rep_lst (hid_new L hp) (r.mono ((Same.upd hp).hid A))) ⟨h, z⟩⟩
  · exact (show False from q).elim
def rCatL (K : PySem.W.Frag) : R2 := fun x y H Q => ∃ l b xs zs, x = .ref l ∧ y = .ref b ∧ SqL K H l xs ∧ SqL K H b zs ∧ xs.length + zs.length ≤ sizeLine ∧ ∀ p, H p = none → Q (.ref p) (upd H p (.lst (xs ++ zs)))
theorem op_catL : OpR X (binaryOp .Add) (rCatL X.K) := by
  intro pins s σ H x y v u Q I rx ry h
  obtain ⟨l, b, xs, zs, rfl, rfl, hH, hB, hz, q⟩ := h
  cases rx
  cases ry
  obtain ⟨vs, r, pl, _⟩ := I.list hH
  obtain ⟨ws, r2, pl2, _⟩ := I.list hB
  have hl := r.length
  have hl2 := r2.length
  obtain ⟨⟨cl, dd, data, sl⟩, n, ho, hc, hd, hdt⟩ := pl
  obtain ⟨⟨cl2, dd2, data2, sl2⟩, n2, ho2, hc2, hd2, hdt2⟩ := pl2
  simp only at hc hd hdt hc2 hd2 hdt2
  subst hc hd hdt hc2 hd2 hdt2
  have e : vs.toArray ++ ws.toArray = (vs ++ ws).toArray := by simp
  refine concat_meets ⟨_, ho, rfl⟩ ⟨_, ho2, rfl⟩ noFill_list_add seq_list_add PySem.F.slot_list_add PySem.F.entry_list_add (PySem.F.args_list_add_2 _ _) (list_addW l b vs.toArray ws.toArray n n2 none none sl sl2 (by simp; omega)) ⟨ho, ho2, ?_⟩
  rw [e]
  exact ⟨.ref _, _, I.lnew (t' := s.toks) (r.append r2) (by rw [List.length_append]; omega), rfl, q _ I.fresh⟩
theorem od_add : OpD X cls E (binaryOp .Add) oAdd := by
  refine ⟨_, op_add.or (op_addS.or op_catL), fun A H Q d1 d2 x y L r1 r2 z1 z2 q => ?_⟩
  cases d1 with
  | int i =>
    cases d2 with
    | int j => exact .inl ⟨i, j, repI r1, repI r2, q _ H (.refl _) rep_int trivial⟩
    | _ => exact (show False from q).elim
  | str l =>
    cases d2 with
    | str m =>
      obtain ⟨h, q⟩ := szS_of q
      exact .inr (.inl ⟨l, m, repS r1, repS r2, sm10 (by simpa using h), q⟩)
    | _ => exact (show False from q).elim
  | lst l =>
    cases d2 with
    | lst m =>
      obtain ⟨p, xs, rfl, h1, h2⟩ := repL r1
      obtain ⟨p', ys, rfl, h1', h2'⟩ := repL r2
      have e1 := h2.length
      have e2 := h2'.length
      obtain ⟨h, q⟩ := szL_of q L (h2.append h2') (sms_append z1.2 z2.2)
      exact .inr (.inr ⟨p, p', xs, ys, rfl, rfl, hid_same.seq h1, hid_same.seq h1', sm10 (by simp at h; omega), q⟩)
    | _ => exact (show False from q).elim
  | _ => cases d2 <;> exact (show False from q).elim
theorem od_I {F : Value → Value → Sem Value} {C : Int → Int → Prop} [∀ i j, Decidable (C i j)] {k : Int → Int → V} {kd : Int → Int → Dt} {op : Dt → Dt → M Dt} (h : OpR X F (rI C k)) (hk : ∀ i j H, Rep X.K H (kd i j) (k i j) ∧ sm (kd i j)) (h1 : ∀ i j, op (.int i) (.int j) = if C i j then .ok (kd i j) else .bad)
    (h2 : ∀ d1 d2, (∀ i j, ¬ (d1 = .int i ∧ d2 = .int j)) → op d1 d2 = .bad) : OpD X cls E F op := by
  refine ⟨_, h, fun A H Q d1 d2 x y L r1 r2 z1 z2 q => ?_⟩
  by_cases hh : ∃ i j, d1 = .int i ∧ d2 = .int j
  · obtain ⟨i, j, rfl, rfl⟩ := hh
    rw [h1] at q
    split at q
    · rename_i hc
      exact ⟨i, j, repI r1, repI r2, hc, q _ H (.refl _) (hk i j _).1 (hk i j H).2⟩
    · exact (show False from q).elim
  · rw [h2 d1 d2 fun i j z => hh ⟨i, j, z⟩] at q
    exact (show False from q).elim
theorem od_I0 {F : Value → Value → Sem Value} {k : Int → Int → V} {kd : Int → Int → Dt} {op : Dt → Dt → M Dt} (h : OpR X F (rI0 k)) (hk : ∀ i j H, Rep X.K H (kd i j) (k i j) ∧ sm (kd i j)) (h1 : ∀ i j, op (.int i) (.int j) = .ok (kd i j))
    (h2 : ∀ d1 d2, (∀ i j, ¬ (d1 = .int i ∧ d2 = .int j)) → op d1 d2 = .bad) : OpD X cls E F op := by
  refine ⟨_, h, fun A H Q d1 d2 x y L r1 r2 z1 z2 q => ?_⟩
  by_cases hh : ∃ i j, d1 = .int i ∧ d2 = .int j
  · obtain ⟨i, j, rfl, rfl⟩ := hh
    rw [h1] at q
    exact ⟨i, j, repI r1, repI r2, q _ H (.refl _) (hk i j _).1 (hk i j H).2⟩
  · rw [h2 d1 d2 fun i j z => hh ⟨i, j, z⟩] at q
    exact (show False from q).elim
theorem no_int2 {op : Dt → Dt → M Dt} (h : ∀ d1 d2, op d1 d2 = .bad ∨ ∃ i j, d1 = .int i ∧ d2 = .int j) (d1 d2 : Dt) (hn : ∀ i j, ¬ (d1 = .int i ∧ d2 = .int j)) : op d1 d2 = .bad := by
  rcases h d1 d2 with h | ⟨i, j, h⟩
  · exact h
  · exact (hn i j h).elim
theorem od_sub : OpD X cls E (binaryOp .Sub) oSub := od_I0 op_sub (fun _ _ _ => ⟨rep_int, trivial⟩) (fun _ _ => rfl) (no_int2 fun d1 d2 => by cases d1 <;> cases d2 <;> simp [oSub])
theorem od_mod : OpD X cls E (binaryOp .Mod) oMod := od_I op_mod (fun _ _ _ => ⟨rep_int, trivial⟩) (fun _ _ => rfl) (no_int2 fun d1 d2 => by cases d1 <;> cases d2 <;> simp [oMod])
theorem od_lt : OpD X cls E (compareOp .Lt) oLt := od_I0 op_lt (fun _ _ _ => ⟨rep_bl, trivial⟩) (fun _ _ => rfl) (no_int2 fun d1 d2 => by cases d1 <;> cases d2 <;> simp [oLt])
theorem od_le : OpD X cls E (compareOp .LtE) oLe := od_I0 op_le (fun _ _ _ => ⟨rep_bl, trivial⟩) (fun _ _ => rfl) (no_int2 fun d1 d2 => by cases d1 <;> cases d2 <;> simp [oLe])
theorem od_gt : OpD X cls E (compareOp .Gt) oGt := od_I0 op_gt (fun _ _ _ => ⟨rep_bl, trivial⟩) (fun _ _ => rfl) (no_int2 fun d1 d2 => by cases d1 <;> cases d2 <;> simp [oGt])
instance (i j : Int) : Decidable (CDiv i j) := by unfold CDiv; infer_instance
theorem od_div : OpD X cls E (binaryOp .FloorDiv) oDiv := od_I op_fdiv (fun _ _ _ => ⟨rep_int, trivial⟩) (fun _ _ => rfl) (no_int2 fun d1 d2 => by cases d1 <;> cases d2 <;> simp [oDiv])
theorem od_mul : OpD X cls E (binaryOp .Mult) oMul := by
  refine ⟨_, op_mul.or op_repS, fun A H Q d1 d2 x y L r1 r2 z1 z2 q => ?_⟩
  cases d1 with
  | int i =>
    cases d2 with
    | int j =>
      simp only [oMul] at q
      split at q
      · rename_i h
        exact .inl ⟨i, j, repI r1, repI r2, h, q _ H (.refl _) rep_int trivial⟩
      · exact (show False from q).elim
    | _ => exact (show False from q).elim
  | str l =>
    cases d2 with
    | int j =>
      simp only [oMul] at q
      split at q
      · rename_i h
        exact .inr ⟨l, j, repS r1, repI r2, h.1, h.2.1, h.2.2, (szS_of q).2⟩
      · exact (show False from q).elim
    | _ => exact (show False from q).elim
  | _ => cases d2 <;> exact (show False from q).elim
theorem od_eq (hu : X.A.units + 50 < cLine) : OpD X cls E (compareOp .Eq) oEq := by
  refine ⟨_, op_eqD hu, fun A H Q d1 d2 x y L r1 r2 z1 z2 q => ?_⟩
  unfold oEq at q
  split at q
  · rename_i h
    exact ⟨d1, d2, r1.mono hid_same, r2.mono hid_same, h, q _ H (.refl _) rep_bl trivial⟩
  · exact (show False from q).elim
theorem od_ne (hu : X.A.units + 50 < cLine) : OpD X cls E (compareOp .NotEq) oNe := by
  refine ⟨_, op_neD hu, fun A H Q d1 d2 x y L r1 r2 z1 z2 q => ?_⟩
  unfold oNe at q
  split at q
  · rename_i h
    exact ⟨d1, d2, r1.mono hid_same, r2.mono hid_same, h, q _ H (.refl _) rep_bl trivial⟩
  · exact (show False from q).elim
end
end L2

set_option Elab.async false
set_option linter.all false
set_option maxRecDepth 100000
set_option maxHeartbeats 4000000
namespace L2
open PySem PySem.Spec PyProof.Rows PySem.W
section
variable {X : Cx} {cls : Nat → Addr} {E : XK} {a b c : Expr} {f g h : Rho → M Dt} {pos : Pos}
/-! ### in -/
theorem flat_rep {H : Hp} {d : Dt} {v : V} (h : flatD d = true) (r : Rep X.K H d v) : flatV v = true := by
  cases d with
  | non => cases repN r; rfl
  | bl b => cases repB r; rfl
  | int i => cases repI r; rfl
  | str l => cases repS r; rfl
  | _ => cases h
theorem eqV_rep {H H' : Hp} {d e : Dt} {v w : V} (h1 : flatD d = true) (h2 : flatD e = true) (r1 : Rep X.K H d v) (r2 : Rep X.K H' e w) : eqV v w = eqD d e := by
  cases d with
  | non =>
    cases repN r1
    cases e with
    | non => cases repN r2; rfl
    | bl b => cases repB r2; rfl
    | int i => cases repI r2; rfl
    | str l => cases repS r2; rfl
    | _ => cases h2
  | bl b =>
    cases repB r1
    cases e with
    | non => cases repN r2; rfl
    | bl b' => cases repB r2; cases b <;> cases b' <;> rfl
    | int i => cases repI r2; cases b <;> simp [eqV, eqD, b2i]
    | str l => cases repS r2; rfl
    | _ => cases h2
  | int i =>
    cases repI r1
    cases e with
    | non => cases repN r2; rfl
    | bl b => cases repB r2; cases b <;> simp [eqV, eqD, b2i]
    | int j => cases repI r2; simp [eqV, eqD]
    | str l => cases repS r2; rfl
    | _ => cases h2
  | str l =>
    cases repS r1
    cases e with
    | non => cases repN r2; rfl
    | bl b => cases repB r2; rfl
    | int j => cases repI r2; rfl
    | str m => cases repS r2; simp [eqV, eqD, str_beqS]
    | _ => cases h2
  | _ => cases h1
theorem flats_rep {H : Hp} : ∀ {ds : List Dt} {xs : List V}, ds.all flatD = true → Reps X.K H ds xs → xs.all flatV = true
  | [], _, _, r => by simp only [Reps] at r; subst r; rfl
  | d :: ds, _, h, r => by
    simp only [Reps] at r
    obtain ⟨x, t, rfl, r1, r2⟩ := r
    rw [List.all_cons, Bool.and_eq_true] at h ⊢
    exact ⟨flat_rep h.1 r1, flats_rep h.2 r2⟩
theorem in_rep {H H' : Hp} {e : Dt} {w : V} (he : flatD e = true) (re : Rep X.K H' e w) : ∀ {ds : List Dt} {xs : List V}, ds.all flatD = true → Reps X.K H ds xs → inV w xs = ds.any fun d => eqD d e
  | [], _, _, r => by simp only [Reps] at r; subst r; rfl
  | d :: ds, _, h, r => by
    simp only [Reps] at r
    obtain ⟨x, t, rfl, r1, r2⟩ := r
    rw [List.all_cons, Bool.and_eq_true] at h
    unfold inV
    rw [List.any_cons, List.any_cons, eqV_rep h.1 he r1 re]
    have := in_rep he re h.2 r2
    unfold inV at this
    rw [this]
theorem r_in {A : List Addr} {H : Hp} {Q : Bool → Prop} {d1 d2 : Dt} {x y : V} {neg : Bool} {QQ : VK} (r1 : Rep X.K (hid H A) d1 x) (r2 : Rep X.K (hid H A) d2 y) (hq : ∀ k, oIn d1 d2 = .ok (.bl k) → QQ (.bl (if neg then !k else k)) H) (hb : ∃ k, oIn d1 d2 = .ok (.bl k)) :
    rInS neg x y H QQ ∨ rIn X.K neg x y H QQ := by
  obtain ⟨k, hk⟩ := hb
  have q := hq k hk
  unfold oIn at hk
  split at hk
  · rename_i c l
    injection hk with hk
    injection hk with hk
    subst hk
    exact .inl ⟨c, l, repS r1, repS r2, q⟩
  · rename_i ds _
    split at hk
    · rename_i hc
      injection hk with hk
      injection hk with hk
      obtain ⟨p, xs, rfl, h1, h2⟩ := repL r2
      refine .inr ⟨p, xs, rfl, .inl (hid_same.seq h1), flat_rep hc.1 r1, flats_rep hc.2 h2, ?_⟩
      rw [in_rep hc.1 r1 hc.2 h2, hk]
      exact q
    · cases hk
  · rename_i ds _
    split at hk
    · rename_i hc
      injection hk with hk
      injection hk with hk
      obtain ⟨p, xs, rfl, h1, h2⟩ := repT r2
      refine .inr ⟨p, xs, rfl, .inr (hid_same.seqT h1), flat_rep hc.1 r1, flats_rep hc.2 h2, ?_⟩
      rw [in_rep hc.1 r1 hc.2 h2, hk]
      exact q
    · cases hk
  · cases hk
theorem oIn_bl {d1 d2 d : Dt} (h : oIn d1 d2 = .ok d) : ∃ k, d = .bl k := by
  unfold oIn at h
  split at h
  · injection h with h; exact ⟨_, h.symm⟩
  · split at h
    · injection h with h; exact ⟨_, h.symm⟩
    · cases h
  · split at h
    · injection h with h; exact ⟨_, h.symm⟩
    · cases h
  · cases h
theorem oIn_ex {d1 d2 : Dt} {c : Nat} (h : oIn d1 d2 = .ex c) : False := by
  unfold oIn at h
  split at h
  · cases h
  · split at h <;> cases h
  · split at h <;> cases h
  · cases h
theorem od_in : OpD X cls E (compareOp .In) oIn := by
  refine ⟨_, op_inS.or op_in_seq, fun A H Q d1 d2 x y L r1 r2 z1 z2 q => ?_⟩
  cases hm : oIn d1 d2 with
  | ok d =>
    obtain ⟨k, rfl⟩ := oIn_bl hm
    rw [hm] at q
    refine r_in (Q := fun _ => True) (neg := false) r1 r2 (fun k' hk' => ?_) ⟨k, hm⟩
    rw [hm] at hk'
    cases hk'
    exact q _ H (.refl _) rep_bl trivial
  | ex c => exact (oIn_ex hm).elim
  | bad => rw [hm] at q; exact (show False from q).elim
/-! ### places and parts -/
theorem reps_at {K : PySem.W.Frag} {H : Hp} {ds : List Dt} {xs : List V} (r : Reps K H ds xs) {i : Int} {d : Dt} (h : atZ ds i = some d) : ∃ x, atI xs i = some x ∧ Rep K H d x := by
  have hl := r.length
  unfold atZ at h
  have e : ixZ ds.length i = ixN xs.length i := by rw [hl]; rfl
  unfold atI
  rw [← e]
  cases hj : ixZ ds.length i with
  | none => rw [hj] at h; cases h
  | some j =>
    rw [hj] at h
    simp only [Option.bind_some] at h ⊢
    have hlt : j < ds.length := (List.getElem?_eq_some_iff.mp h).1
    have hx : xs[j]? = some (xs[j]'(by omega)) := by simp
    obtain ⟨d', h1, h2⟩ := r.get hx
    rw [h] at h1
    cases h1
    exact ⟨_, hx, h2⟩
theorem atZ_mem {α : Type} {l : List α} {i : Int} {x : α} (h : atZ l i = some x) : x ∈ l := by
  unfold atZ at h
  cases hj : ixZ l.length i with
  | none => rw [hj] at h; cases h
  | some j => rw [hj] at h; exact List.mem_of_getElem? h
theorem ev_ix (ha : Ev X cls E a f) (hb : Ev X cls E b g) (hs : PlainIx b) : Ev X cls E (.Subscript a b pos) (p2 oIx f g) := by
  refine (pe_ix (ix_S.or (ix_list.or ix_tup)) ha hb hs).imp (t2 fun A H Q d1 d2 x y L r1 r2 z1 z2 q => ?_)
  cases d1 with
  | str l =>
    cases d2 with
    | int i =>
      simp only [oIx, ixC] at q
      split at q
      · rename_i c hc
        exact .inl ⟨l, i, c, repS r1, repI r2, sm10 z1, hc, q _ H (.refl _) rep_str (by show 1 ≤ 10000; decide)⟩
      · exact (show False from q).elim
    | _ => exact (show False from q).elim
  | lst l =>
    cases d2 with
    | int i =>
      simp only [oIx, ixD] at q
      split at q
      · rename_i d hd
        obtain ⟨p, xs, rfl, h1, h2⟩ := repL r1
        obtain ⟨v, hv, rv⟩ := reps_at h2 hd
        exact .inr (.inl ⟨p, xs, i, v, rfl, repI r2, hid_same.seq h1, hv, q v H (.refl _) rv (sms_mem z1.2 (atZ_mem hd))⟩)
      · exact (show False from q).elim
    | _ => exact (show False from q).elim
  | tup l =>
    cases d2 with
    | int i =>
      simp only [oIx, ixD] at q
      split at q
      · rename_i d hd
        obtain ⟨p, xs, rfl, h1, h2⟩ := repT r1
        obtain ⟨v, hv, rv⟩ := reps_at h2 hd
        exact .inr (.inr ⟨p, xs, i, v, rfl, repI r2, hid_same.seqT h1, hv, q v H (.refl _) rv (sms_mem z1.2 (atZ_mem hd))⟩)
      · exact (show False from q).elim
    | _ => exact (show False from q).elim
  | _ => cases d2 <;> exact (show False from q).elim
theorem sIz_eq (n d : Nat) (o : Option Int) : HT.sIx n d o = sIz n d o := by cases o <;> rfl
theorem cutN_eq (l : List Nat) (lo hi : Option Int) : cutN l lo hi = cutZ l lo hi := by
  unfold cutN cutZ
  rw [sIz_eq, sIz_eq]
theorem reps_drop {K : PySem.W.Frag} {H : Hp} : ∀ (n : Nat) {ds : List Dt} {xs : List V}, Reps K H ds xs → Reps K H (ds.drop n) (xs.drop n)
  | 0, _, _, r => r
  | n + 1, [], _, r => by simp only [Reps] at r; subst r; exact .nil
  | n + 1, d :: ds, _, r => by
    simp only [Reps] at r
    obtain ⟨x, t, rfl, _, r2⟩ := r
    exact reps_drop n r2
theorem reps_take {K : PySem.W.Frag} {H : Hp} : ∀ (n : Nat) {ds : List Dt} {xs : List V}, Reps K H ds xs → Reps K H (ds.take n) (xs.take n)
  | 0, _, _, _ => .nil
  | n + 1, [], _, r => by simp only [Reps] at r; subst r; exact .nil
  | n + 1, d :: ds, _, r => by
    simp only [Reps] at r
    obtain ⟨x, t, rfl, r1, r2⟩ := r
    exact .cons r1 (reps_take n r2)
theorem cutZ_mem {α : Type} {l : List α} {lo hi : Option Int} {x : α} (h : x ∈ cutZ l lo hi) : x ∈ l := List.mem_of_mem_drop (List.mem_of_mem_take h)
theorem cutZ_length {α : Type} (l : List α) (lo hi : Option Int) : (cutZ l lo hi).length ≤ l.length := by
  unfold cutZ
  simp only [List.length_take, List.length_drop]
  omega
theorem ov_none : PO X none (tMO X.K cls E (pPart none)) := po_none.imp fun σ H Q ⟨O, A, ρ, F, q⟩ => q H (.refl _)
theorem ov_some {e : Expr} (he : Ev X cls E e f) : PO X (some e) (tMO X.K cls E (pPart (some f))) := (po_some he).imp fun σ H Q ⟨O, A, ρ, F, q⟩ => by
  refine ⟨O, A, ρ, F, Rg.bind q fun d _ q1 => ?_⟩
  intro v H1 s1 r1 z1
  cases d with
  | int i => exact ⟨i, repI r1, q1 H1 s1⟩
  | _ => exact (show False from q1).elim
theorem ev_slice {lo hi : Option Expr} {fl fh : Rho → M (Option Int)} {p2' : Pos} (he : Ev X cls E a f) (hl : PO X lo (tMO X.K cls E fl)) (hh : PO X hi (tMO X.K cls E fh)) : Ev X cls E (.Subscript a (.Slice lo hi none p2') pos) (pSlice f fl fh) :=
  (pe_slice (sl_S.or sl_list) he hl hh).imp fun σ H Q ⟨O, A, ρ, F, q⟩ => by
  refine ⟨O, A, ρ, F, Rg.bind q fun d _ q1 => ?_⟩
  intro v H1 s1 r1 z1
  refine ⟨O, A, ρ, F.mono s1, Rg.bind (Res.mono (Q := Q) q1 s1) fun o1 _ q2 => ?_⟩
  intro H2 s2
  refine ⟨O, A, ρ, (F.mono s1).mono s2, Rg.bind (Res.mono (Q := Q) q2 s2) fun o2 _ q3 => ?_⟩
  intro H3 s3
  have r3 := r1.mono ((s2.trans s3).hid A)
  cases d with
  | str l =>
    refine .inl ⟨l, repS r3, sm10 z1, ?_⟩
    rw [cutN_eq]
    exact q3 _ H3 s3 rep_str (Nat.le_trans (cutZ_length l o1 o2) z1)
  | lst l =>
    obtain ⟨p, xs, rfl, h1, h2⟩ := repL r3
    refine .inr ⟨p, xs, rfl, hid_same.seq h1, fun p' hp => ?_⟩
    have L3 : Liv H3 A := ((F.liv.mono s1).mono s2).mono s3
    have hl := h2.length
    have hr : Reps X.K (hid H3 A) (cutZ l o1 o2) (cutV xs o1 o2) := by
      unfold cutZ cutV
      rw [sIz_eq, sIz_eq, ← hl]
      exact reps_take _ (reps_drop _ h2)
    exact q3 (.ref p') _ (s3.trans (.upd hp)) (rep_lst (hid_new L3 hp) (hr.mono ((Same.upd hp).hid A))) ⟨Nat.le_trans (cutZ_length l o1 o2) z1.1, sms_of fun d hd => sms_mem z1.2 (cutZ_mem hd)⟩
  | _ => exact (show False from q3).elim
/-! ### several values, calls -/
variable {fs : Rho → M (List Dt)} {es : List Expr}
theorem av_nil : Av X cls E [] aNil := pa_nil.imp fun σ H Q ⟨O, A, ρ, F, q⟩ => q [] H (.refl _) .nil trivial
theorem av_cons (hst : isStar a = false) (ha : Ev X cls E a f) (hr : Av X cls E es fs) : Av X cls E (a :: es) (aCons f fs) := (pax _ _ _ _ _ hst ha hr).imp fun σ H Q ⟨O, A, ρ, F, q⟩ => by
  refine ⟨O, A, ρ, F, Rg.bind q fun d _ q1 => ?_⟩
  intro v H1 s1 r1 z1
  refine ⟨O, A, ρ, F.mono s1, Rg.bind (ResA.mono (Q := Q) q1 s1) fun ds _ q2 => ?_⟩
  intro vs H2 s2 r2 z2
  exact q2 (v :: vs) H2 s2 (.cons (r1.mono (s2.hid A)) r2) ⟨z1, z2⟩
theorem ev_lst (h : Av X cls E es fs) : Ev X cls E (.List es pos) (pLst fs) := (pe_lst h).imp fun σ H Q ⟨O, A, ρ, F, q⟩ => by
  refine ⟨O, A, ρ, F, Rg.bind q fun ds _ q1 => ?_⟩
  intro vs H1 s1 r1 z1
  obtain ⟨h1, h2⟩ := szL_of (Res.mono (Q := Q) q1 s1) (F.liv.mono s1) r1 z1
  exact ⟨sm10 (by rw [← r1.length]; exact h1), h2⟩
theorem ev_tup {k} (h : Av X cls E es fs) : Ev X cls E (.Tuple es k pos) (pTup fs) := (pe_tup h).imp fun σ H Q ⟨O, A, ρ, F, q⟩ => by
  refine ⟨O, A, ρ, F, Rg.bind q fun ds _ q1 => ?_⟩
  intro vs H1 s1 r1 z1
  have q1' := Res.mono (Q := Q) q1 s1
  split at q1'
  · rename_i hl
    refine ⟨sm10 (by rw [← r1.length]; exact hl), fun p hp => q1' (.ref p) _ (.upd hp) (rep_tup (hid_new (F.liv.mono s1) hp) (r1.mono ((Same.upd hp).hid A))) ⟨hl, z1⟩⟩
  · exact (show False from q1').elim
/-- a built-in that is called with values -/
def CaD (X : Cx) (cls : Nat → Addr) (E : XK) (fv : Value) (F : List Dt → M Dt) : Prop :=
  ∃ r, CallR X fv r ∧ ∀ A H Q ds vs, Liv H A → Reps X.K (hid H A) ds vs → sms ds → Res X.K cls A E (F ds) H Q → r vs H Q
variable {F' : List Dt → M Dt}
theorem t_cb {r : List V → Hp → VK → Prop} (h : ∀ A H Q ds vs, Liv H A → Reps X.K (hid H A) ds vs → sms ds → Res X.K cls A E (F' ds) H Q → r vs H Q) (σ : St) (H : Hp) (Q : VK) (q : tM X.K cls E (pCall F' fs) σ H Q) : tCB r (tMA X.K cls E fs) σ H Q := by
  obtain ⟨O, A, ρ, F, q⟩ := q
  refine ⟨O, A, ρ, F, Rg.bind q fun ds _ q1 => ?_⟩
  intro vs H1 s1 r1 z1
  exact h A H1 Q ds vs (F.liv.mono s1) r1 z1 (Res.mono q1 s1)
theorem ev_callB {x : Str} {id : String} {p : Pos} (hc : CaD X cls E (.builtin id) F') (hg : Gl X x) (hm : X.mg x = none) (hv : bootBuiltins x = some (.builtin id)) (ha : Av X cls E (a :: es) fs) (hn : x ≠ "__name__" := by decide) (hdb : (x == ("__debug__" : Str)) = false := by decide)
    (he : starEach (a :: es) X.env = (false, eval a X.env) :: starEach es X.env := by rfl) (hpl : (backTo pos (starEach es X.env)).any (·.1) = false := by rfl) : Ev X cls E (.Call (.Name x p) (a :: es) [] pos) (pCall F' fs) := by
  obtain ⟨r, h1, h2⟩ := hc
  exact (pe_callB h1 hg hm hv ha hn hdb he hpl).imp (t_cb h2)
theorem ev_callTy {x : Str} {T : String} {p : Pos} (hc : CaD X cls E (.type T) F') (hg : Gl X x) (hm : X.mg x = none) (hv : bootBuiltins x = some (.type T)) (ha : Av X cls E (a :: es) fs) (hn : x ≠ "__name__" := by decide) (hdb : (x == ("__debug__" : Str)) = false := by decide)
    (he : starEach (a :: es) X.env = (false, eval a X.env) :: starEach es X.env := by rfl) (hpl : (backTo pos (starEach es X.env)).any (·.1) = false := by rfl) : Ev X cls E (.Call (.Name x p) (a :: es) [] pos) (pCall F' fs) := by
  obtain ⟨r, h1, h2⟩ := hc
  exact (pe_callTy h1 hg hm hv ha hn hdb he hpl).imp (t_cb h2)
theorem reps1 {K : PySem.W.Frag} {H : Hp} {d : Dt} {vs : List V} (h : Reps K H [d] vs) : ∃ v, vs = [v] ∧ Rep K H d v := by
  simp only [Reps] at h
  obtain ⟨x, r, rfl, h1, rfl⟩ := h
  exact ⟨x, rfl, h1⟩
theorem reps2 {K : PySem.W.Frag} {H : Hp} {d e : Dt} {vs : List V} (h : Reps K H [d, e] vs) : ∃ v w, vs = [v, w] ∧ Rep K H d v ∧ Rep K H e w := by
  simp only [Reps] at h
  obtain ⟨x, r, rfl, h1, y, t, rfl, h2, rfl⟩ := h
  exact ⟨x, y, rfl, h1, h2⟩
theorem reps3 {K : PySem.W.Frag} {H : Hp} {d e f : Dt} {vs : List V} (h : Reps K H [d, e, f] vs) : ∃ v w u, vs = [v, w, u] ∧ Rep K H d v ∧ Rep K H e w ∧ Rep K H f u := by
  simp only [Reps] at h
  obtain ⟨x, r, rfl, h1, y, t, rfl, h2, z, t2, rfl, h3, rfl⟩ := h
  exact ⟨x, y, z, rfl, h1, h2, h3⟩
theorem cd_len : CaD X cls E (.builtin "len") bLen := by
  refine ⟨_, call_lenS.or call_len_seq, fun A H Q ds vs L r z q => ?_⟩
  unfold bLen at q
  split at q
  · rename_i l
    obtain ⟨v, rfl, rv⟩ := reps1 r
    exact .inl ⟨l, by rw [repS rv], sm10 z.1, q _ H (.refl _) rep_int trivial⟩
  · rename_i l
    obtain ⟨v, rfl, rv⟩ := reps1 r
    obtain ⟨p, xs, rfl, h1, h2⟩ := repL rv
    refine .inr ⟨p, xs, rfl, .inl (hid_same.seq h1), ?_⟩
    rw [← h2.length]
    exact q _ H (.refl _) rep_int trivial
  · rename_i l
    obtain ⟨v, rfl, rv⟩ := reps1 r
    obtain ⟨p, xs, rfl, h1, h2⟩ := repT rv
    refine .inr ⟨p, xs, rfl, .inr (hid_same.seqT h1), ?_⟩
    rw [← h2.length]
    exact q _ H (.refl _) rep_int trivial
  · exact (show False from q).elim
theorem cd_max (hc : X.calm = true) : CaD X cls E (.builtin "max") bMax := by
  refine ⟨_, call_max2 hc, fun A H Q ds vs L r z q => ?_⟩
  unfold bMax at q
  split at q
  · rename_i i j
    obtain ⟨v, w, rfl, r1, r2⟩ := reps2 r
    exact ⟨i, j, by rw [repI r1, repI r2], q _ H (.refl _) rep_int trivial⟩
  · exact (show False from q).elim
theorem bools_rep {K : PySem.W.Frag} {H : Hp} : ∀ {ds : List Dt} {bs : List Bool} {xs : List V}, bools ds = some bs → Reps K H ds xs → xs = bs.map V.bl
  | [], bs, xs, h, r => by
    simp only [Reps] at r
    simp only [bools, Option.some.injEq] at h
    subst r h
    rfl
  | d :: ds, bs, xs, h, r => by
    simp only [Reps] at r
    obtain ⟨x, t, rfl, r1, r2⟩ := r
    cases d with
    | bl b =>
      simp only [bools, Option.map_eq_some_iff] at h
      obtain ⟨cs, hc, rfl⟩ := h
      rw [bools_rep hc r2, List.map_cons]
      simp only [Rep] at r1
      rw [r1]
    | _ => simp [bools] at h
theorem cd_all (hc : X.calm = true) : CaD X cls E (.builtin "all") bAll := by
  refine ⟨_, call_allB hc, fun A H Q ds vs L r z q => ?_⟩
  unfold bAll at q
  split at q
  · rename_i l
    obtain ⟨v, rfl, rv⟩ := reps1 r
    obtain ⟨p, xs, rfl, h1, h2⟩ := repL rv
    unfold blM at q
    split at q
    · rename_i bs hb
      rw [bools_rep hb h2] at h1
      exact ⟨p, bs, rfl, hid_same.seq h1, q _ H (.refl _) rep_bl trivial⟩
    · exact (show False from q).elim
  · exact (show False from q).elim
theorem reps_sgs {K : PySem.W.Frag} {H : Hp} : ∀ l : List Nat, Reps K H (sgD l) (sgs l)
  | [] => .nil
  | c :: l => .cons rep_str (reps_sgs l)
theorem sms_sgD (l : List Nat) : sms (sgD l) := sms_of fun d hd => by
  obtain ⟨c, _, rfl⟩ := List.mem_map.mp hd
  show 1 ≤ 10000
  decide
/-! ### own defs -/
/-- the promise of a def that reckons as F does -/
def spM (K : PySem.W.Frag) (cls : Nat → Addr) (F : List Dt → M Dt) : Sp := fun vs H Q E => ∃ A ds, Liv H A ∧ Reps K (hid H A) ds vs ∧ sms ds ∧ Res K cls A E (F ds) H Q
theorem ev_cal {k : Nat} {x : Str} {ps : List Str} {p : Pos} {CX : CXT} (C : Cal X.prog X.w X.K X.mg X.base CX k x ps (spM X.K cls F')) (hr : Room k X.A) (hx : Passes CX X E) (ha : Av X cls E (a :: es) fs) (hst : isStar a = false := by rfl) (hg : Gl X x := by rfl)
    (hdb : (x == ("__debug__" : Str)) = false := by decide) (hpl : (backTo pos (starEach es X.env)).any (·.1) = false := by rfl) : Ev X cls E (.Call (.Name x p) (a :: es) [] pos) (pCall F' fs) :=
  (pe_cal C hr hx ha hst hg hdb hpl).imp fun σ H Q ⟨O, A, ρ, F, q⟩ => by
  refine ⟨O, A, ρ, F, Rg.bind q fun ds _ q1 => ?_⟩
  intro vs H1 s1 r1 z1
  rw [List.append_nil]
  exact ⟨A, ds, F.liv.mono s1, r1, z1, Res.mono q1 s1⟩
/-! ### methods -/
theorem PE.or {e : Expr} {t t' : TE} (h : PE X e t) (h' : PE X e t') : PE X e (fun σ H Q => t σ H Q ∨ t' σ H Q) := fun pins s σ H Q I hw => by
  rcases hw with hw | hw
  · exact h pins s σ H Q I hw
  · exact h' pins s σ H Q I hw
/-- what a method's rule owes to m -/
def MtD (X : Cx) (cls : Nat → Addr) (E : XK) (T id : String) (m : Sel) : Prop :=
  ∃ r, MtR X id r ∧ (∀ H d k x, m d = some k → Rep X.K H d x → tyV X.K T x H) ∧ ∀ A H Q d k x ds vs, m d = some k → Liv H A → Rep X.K (hid H A) d x → sm d → Reps X.K (hid H A) ds vs → sms ds → Res X.K cls A E (k ds) H Q → r x vs H Q
theorem t_bm {T : String} {m : Sel} {r : V → List V → Hp → VK → Prop} (h1 : ∀ H d k x, m d = some k → Rep X.K H d x → tyV X.K T x H)
    (h2 : ∀ A H Q d k x ds vs, m d = some k → Liv H A → Rep X.K (hid H A) d x → sm d → Reps X.K (hid H A) ds vs → sms ds → Res X.K cls A E (k ds) H Q → r x vs H Q) (σ : St) (H : Hp) (Q : VK) (q : tM X.K cls E (pMeth m f fs) σ H Q) :
    tBM X.K T r (tM X.K cls E f) (tMA X.K cls E fs) σ H Q := by
  obtain ⟨O, A, ρ, F, q⟩ := q
  refine ⟨O, A, ρ, F, Rg.bind q fun d _ q1 => ?_⟩
  intro v H1 s1 r1 z1
  have q1' := Res.mono (Q := Q) q1 s1
  cases hk : m d with
  | none => rw [hk] at q1'; exact (show False from q1').elim
  | some k =>
    rw [hk] at q1'
    have q2' : Res X.K cls A E ((fs ρ).bd k) H1 Q := q1'
    refine ⟨h1 H1 d k v hk (r1.mono hid_same), O, A, ρ, F.mono s1, Rg.bind q2' fun ds _ q2 => ?_⟩
    intro vs H2 s2 r2 z2
    exact h2 A H2 Q d k v ds vs hk ((F.liv.mono s1).mono s2) (r1.mono (s2.hid A)) z1 r2 z2 (Res.mono q2 s2)
theorem ev_bm {T name id : String} {m : Sel} {apos : Pos} {o : Expr} (pa : PlainAttrs T) (slot : Slot T name id) (hty : typeOf (.builtin id) = pure (.type "method_descriptor")) (hm : MtD X cls E T id m) (ho : Ev X cls E o f) (ha : Av X cls E (a :: es) fs)
    (hbase : attributeBase o name X.env (eval o X.env) = eval o X.env := by rfl)
    (hfew : ((backTo pos (starEach (a :: es) X.env)).all (fun x => !x.1) && (backToKw pos (keywordEach [] X.env)).all (fun x => x.1.isSome)
      && decide ((a :: es).length + ([] : List Keyword).length + (if ([] : List Keyword).isEmpty then 0 else 1) < 30)) = true := by rfl)
    (hline : (apos.endLine == pos.line) = true := by rfl) (hs : starEach (a :: es) X.env = (false, eval a X.env) :: starEach es X.env := by rfl) (hplain : (backTo pos (starEach es X.env)).any (·.1) = false := by rfl) :
    Ev X cls E (.Call (.Attribute o name apos) (a :: es) [] pos) (pMeth m f fs) := by
  obtain ⟨r, h0, h1, h2⟩ := hm
  exact (pe_bm pa slot hty h0 ho ha hbase hfew hline hs hplain).imp (t_bm h1 h2)
theorem strs_rep {K : PySem.W.Frag} {H : Hp} : ∀ {ds : List Dt} {ls : List (List Nat)} {xs : List V}, strsM ds = some ls → Reps K H ds xs → xs = ls.map S
  | [], bs, xs, h, r => by
    simp only [Reps] at r
    simp only [strsM, Option.some.injEq] at h
    subst r h
    rfl
  | d :: ds, bs, xs, h, r => by
    simp only [Reps] at r
    obtain ⟨x, t, rfl, r1, r2⟩ := r
    cases d with
    | str l =>
      simp only [strsM, Option.map_eq_some_iff] at h
      obtain ⟨cs, hc, rfl⟩ := h
      rw [strs_rep hc r2, List.map_cons]
      simp only [Rep] at r1
      rw [r1]
    | _ => simp [strsM] at h
theorem md_join : MtD X cls E "str" "str.join" mJoin := by
  refine ⟨_, mt_joinS, fun H d k x hk r => ?_, fun A H Q d k x ds vs hk L r z rs zs q => ?_⟩
  · unfold mJoin at hk
    split at hk
    · rw [repS r]; rfl
    · cases hk
  · unfold mJoin at hk
    split at hk
    · injection hk with hk
      subst hk
      unfold joinM at q
      split at q
      · rename_i l
        obtain ⟨v, rfl, rv⟩ := reps1 rs
        obtain ⟨p, xs, rfl, h1, h2⟩ := repL rv
        unfold jnM at q
        split at q
        · rename_i ls hls
          rw [strs_rep hls h2] at h1
          obtain ⟨h, q⟩ := szS_of q
          exact ⟨p, ls, repS r, rfl, hid_same.seq h1, h, q⟩
        · exact (show False from q).elim
      · exact (show False from q).elim
    · cases hk
theorem md_countS : MtD X cls E "str" "str.count" mCountS := by
  refine ⟨_, mt_countS, fun H d k x hk r => ?_, fun A H Q d k x ds vs hk L r z rs zs q => ?_⟩
  · unfold mCountS at hk
    split at hk
    · rw [repS r]; rfl
    · cases hk
  · unfold mCountS at hk
    split at hk
    · rename_i l
      injection hk with hk
      subst hk
      unfold cntS at q
      split at q
      · rename_i c
        obtain ⟨v, rfl, rv⟩ := reps1 rs
        exact ⟨l, c, repS r, by rw [repS rv], q _ H (.refl _) rep_int trivial⟩
      · exact (show False from q).elim
    · cases hk
/-! ### what is walked -/
structure ItD (K : PySem.W.Frag) (A : List Addr) (J : It) (ds : List Dt) (H1 : Hp) : Prop where
  go : ∀ i H, i < ds.length → Same (hid H1 A) H → J.go i H
  stop : ∀ H, Same (hid H1 A) H → J.stop ds.length H
  yl : ∀ i H x H' A', i < ds.length → Liv H A' → Same (hid H1 A) (hid H A') → J.yld i H x H' → Same H H' ∧ ∃ d, ds[i]? = some d ∧ Rep K (hid H' A') d x
  small : sms ds
  few : ds.length ≤ 10000
def iM (K : PySem.W.Frag) (cls : Nat → Addr) (E : XK) (ι : IM) : TI := fun σ H R => ∃ O A ρ, Fit K O A ρ σ H ∧ Rg cls E (ι ρ) H fun ds => ∀ J H', Same H H' → ItD K A J ds H' → R J H'
abbrev Iv (X : Cx) (cls : Nat → Addr) (E : XK) (tg e : Expr) (ι : IM) : Prop := PI X tg e (iM X.K cls E ι)
theorem PI.imp {tg e : Expr} {t t' : TI} (h : PI X tg e t') (i : ∀ σ H R, t σ H R → t' σ H R) : PI X tg e t := fun pins s σ H R I hw => h pins s σ H R I (i σ H R hw)
theorem PI.or {tg e : Expr} {t t' : TI} (h : PI X tg e t) (h' : PI X tg e t') : PI X tg e (fun σ H R => t σ H R ∨ t' σ H R) := fun pins s σ H R I hw => by
  rcases hw with hw | hw
  · exact h pins s σ H R I hw
  · exact h' pins s σ H R I hw
theorem itd_list {K : PySem.W.Frag} {A : List Addr} {a : Addr} {ds : List Dt} {xs : List V} {H1 : Hp} (h1 : SqL K (hid H1 A) a xs) (h2 : Reps K (hid H1 A) ds xs) (z : sms ds) (zl : ds.length ≤ 10000) : ItD K A (Itl K a) ds H1 := by
  have hl := h2.length
  refine ⟨fun i H hi s => ⟨xs, xs[i]'(by omega), s.seq h1, by simp⟩, fun H s => ⟨xs, s.seq h1, by omega⟩, fun i H x H' A' hi L s y => ?_, z, zl⟩
  obtain ⟨e, hx⟩ := y
  subst e
  have hx' := hx xs ((s.trans hid_same).seq h1)
  obtain ⟨d, hd, rd⟩ := h2.get hx'
  exact ⟨.refl _, d, hd, rd.mono s⟩
theorem itd_tup {K : PySem.W.Frag} {A : List Addr} {a : Addr} {ds : List Dt} {xs : List V} {H1 : Hp} (h1 : SqT K (hid H1 A) a xs) (h2 : Reps K (hid H1 A) ds xs) (z : sms ds) (zl : ds.length ≤ 10000) : ItD K A (Itt K a) ds H1 := by
  have hl := h2.length
  refine ⟨fun i H hi s => ⟨xs, xs[i]'(by omega), s.seqT h1, by simp⟩, fun H s => ⟨xs, s.seqT h1, by omega⟩, fun i H x H' A' hi L s y => ?_, z, zl⟩
  obtain ⟨e, hx⟩ := y
  subst e
  have hx' := hx xs ((s.trans hid_same).seqT h1)
  obtain ⟨d, hd, rd⟩ := h2.get hx'
  exact ⟨.refl _, d, hd, rd.mono s⟩
theorem itd_f {K : PySem.W.Frag} {A : List Addr} {ds : List Dt} {xs : List V} {H1 : Hp} (h2 : Reps K (hid H1 A) ds xs) (z : sms ds) (zl : ds.length ≤ 10000) : ItD K A (Itf xs) ds H1 := by
  have hl := h2.length
  refine ⟨fun i H hi s => by show i < xs.length; omega, fun H s => by show xs.length ≤ ds.length; omega, fun i H x H' A' hi L s y => ?_, z, zl⟩
  obtain ⟨e, hx⟩ := y
  subst e
  obtain ⟨d, hd, rd⟩ := h2.get hx
  exact ⟨.refl _, d, hd, rd.mono s⟩
theorem iv_of {tg e : Expr} (he : Ev X cls E e f) : Iv X cls E tg e (iOf f) := by
  refine ((pi_list he).or ((pi_tup he).or (pi_str he))).imp fun σ H R ⟨O, A, ρ, F, q⟩ => ?_
  cases hm : f ρ with
  | bad =>
    unfold iOf at q
    rw [hm] at q
    exact (show False from q).elim
  | ex c =>
    refine .inl ⟨O, A, ρ, F, ?_⟩
    unfold iOf at q
    rw [hm] at q ⊢
    exact q
  | ok d =>
    have q' : Rg cls E (seqM d) H fun ds => ∀ J H', Same H H' → ItD X.K A J ds H' → R J H' := by
      unfold iOf at q
      rw [hm] at q
      exact q
    cases d with
    | lst l =>
      refine .inl ⟨O, A, ρ, F, ?_⟩
      rw [hm]
      intro v H1 s1 r1 z1
      obtain ⟨p, xs, rfl, h1, h2⟩ := repL r1
      exact ⟨p, rfl, ⟨xs, hid_same.seq h1⟩, q' _ H1 s1 (itd_list h1 h2 z1.2 z1.1)⟩
    | tup l =>
      refine .inr (.inl ⟨O, A, ρ, F, ?_⟩)
      rw [hm]
      intro v H1 s1 r1 z1
      obtain ⟨p, xs, rfl, h1, h2⟩ := repT r1
      exact ⟨p, rfl, ⟨xs, hid_same.seqT h1⟩, q' _ H1 s1 (itd_tup h1 h2 z1.2 z1.1)⟩
    | str l =>
      refine .inr (.inr ⟨O, A, ρ, F, ?_⟩)
      rw [hm]
      intro v H1 s1 r1 z1
      exact ⟨l, repS r1, q' _ H1 s1 (itd_f (reps_sgs l) (sms_sgD l) (by rw [sgD, List.length_map]; exact z1))⟩
    | _ => exact (show False from q').elim
theorem itd_r {K : PySem.W.Frag} {A : List Addr} {lo hi : Int} {H1 : Hp} (zl : (hi - lo).toNat ≤ 10000) : ItD K A (Itr lo (hi - lo).toNat) (rngD lo hi) H1 := by
  have hl : (rngD lo hi).length = (hi - lo).toNat := by simp [rngD]
  refine ⟨fun i H hi s => by show i < (_ : Nat); omega, fun H s => by show (_ : Nat) ≤ _; omega, fun i H x H' A' hi' L s y => ?_, sms_of fun d hd => ?_, by omega⟩
  · obtain ⟨e, hx⟩ := y
    subst e hx
    refine ⟨.refl _, .int (lo + (i : Nat)), ?_, rep_int⟩
    rw [hl] at hi'
    simp [rngD, hi']
  · obtain ⟨k, _, rfl⟩ := List.mem_map.mp hd
    trivial
theorem iv_range1 {tg : Expr} {p : Pos} (hg : Gl X "range") (hm : X.mg "range" = none) (ha : Av X cls E [a] fs) (hs : starEach [a] X.env = [(false, eval a X.env)] := by rfl) : Iv X cls E tg (.Call (.Name "range" p) [a] [] pos) (iBy rng1M fs) :=
  (pi_range1 hg hm ha hs).imp fun σ H R ⟨O, A, ρ, F, q⟩ => by
  refine ⟨O, A, ρ, F, Rg.bind q fun ds hds q1 => ?_⟩
  clear hds
  intro vs H1 s1 r1 z1
  unfold rng1M at q1
  split at q1
  · rename_i n
    split at q1
    · rename_i hn
      obtain ⟨v, rfl, rv⟩ := reps1 r1
      refine ⟨n, by rw [repI rv], by omega, by omega, ?_⟩
      have e : n.toNat = (n - 0).toNat := by omega
      rw [e]
      exact q1 _ H1 s1 (itd_r (by omega))
    · exact (show False from q1).elim
  · exact (show False from q1).elim
theorem iv_range2 {tg : Expr} {p : Pos} (hg : Gl X "range") (hm : X.mg "range" = none) (ha : Av X cls E [a, b] fs) (hs : starEach [a, b] X.env = [(false, eval a X.env), (false, eval b X.env)] := by rfl) (hs2 : starEach [b] X.env = [(false, eval b X.env)] := by rfl) :
    Iv X cls E tg (.Call (.Name "range" p) [a, b] [] pos) (iBy rng2M fs) :=
  (pi_range2 hg hm ha hs hs2).imp fun σ H R ⟨O, A, ρ, F, q⟩ => by
  refine ⟨O, A, ρ, F, Rg.bind q fun ds hds q1 => ?_⟩
  clear hds
  intro vs H1 s1 r1 z1
  unfold rng2M at q1
  split at q1
  · rename_i i j
    split at q1
    · rename_i hn
      obtain ⟨v, w, rfl, rv, rw'⟩ := reps2 r1
      refine ⟨i, j, by rw [repI rv, repI rw'], ⟨by omega, by omega, by omega, by omega⟩, ?_⟩
      exact q1 _ H1 s1 (itd_r (by omega))
    · exact (show False from q1).elim
  · exact (show False from q1).elim
end
end L2

set_option Elab.async false
set_option linter.all false
set_option maxRecDepth 100000
set_option maxHeartbeats 4000000
namespace L2
open PySem PySem.Spec PyProof.Rows PySem.W
/-! ### where a value is put -/
def gM (K : PySem.W.Frag) (g : GM) : TG := fun v σ H Q => ∃ O A ρ d, Fit K O A ρ σ H ∧ Rep K (hid H A) d v ∧ sm d ∧ ∃ ρ', g d ρ = .ok ρ' ∧ ∀ σ', Fit K O A ρ' σ' H → Q σ' H
def gsM (K : PySem.W.Frag) (g : List Dt → Rho → M Rho) : TGs := fun vs σ H Q => ∃ O A ρ ds, Fit K O A ρ σ H ∧ Reps K (hid H A) ds vs ∧ sms ds ∧ ∃ ρ', g ds ρ = .ok ρ' ∧ ∀ σ', Fit K O A ρ' σ' H → Q σ' H
theorem PG.imp {X : Cx} {e : Expr} {t t' : TG} (h : PG X e t') (i : ∀ v σ H Q, t v σ H Q → t' v σ H Q) : PG X e t := fun pins s σ H v u Q I r hw => h pins s σ H v u Q I r (i v σ H Q hw)
theorem PGs.imp {X : Cx} {e : List Expr} {t t' : TGs} (h : PGs X e t') (i : ∀ v σ H Q, t v σ H Q → t' v σ H Q) : PGs X e t := fun pins s σ H v u Q I r hw => h pins s σ H v u Q I r (i v σ H Q hw)
theorem Fit.put {K : PySem.W.Frag} {O A : List Addr} {ρ : Rho} {σ : St} {H : Hp} (F : Fit K O A ρ σ H) (i : Nat) {d : Dt} {v : V} (r : Rep K (hid H A) d v) (z : sm d) : Fit K O A (putV i d ρ) (σ.set i (some v)) H := by
  unfold putV
  have hl := F.len
  refine ⟨by simp [hl], F.liv, F.sub, fun j e h => ?_, fun j ds h => ?_, fun j k ds es a hjk h1 h2 h3 => ?_⟩
  · by_cases hj : j = i
    · subst hj
      have hlt : j < ρ.length := by
        have := (List.getElem?_eq_some_iff.mp h).1
        simpa using this
      rw [List.getElem?_set_self hlt] at h
      cases h
      exact ⟨v, List.getElem?_set_self (by omega), r, z⟩
    · rw [List.getElem?_set_ne (Ne.symm hj)] at h ⊢
      exact F.val j e h
  · by_cases hj : j = i
    · subst hj
      have hlt : j < ρ.length := by
        have := (List.getElem?_eq_some_iff.mp h).1
        simpa using this
      rw [List.getElem?_set_self hlt] at h
      cases h
    · rw [List.getElem?_set_ne (Ne.symm hj)] at h ⊢
      exact F.own j ds h
  · have no : ∀ (m : Nat) es, (ρ.set i (.val d))[m]? = some (.own es) → m ≠ i := fun m es h e => by
      subst e
      have hlt : m < ρ.length := by
        have := (List.getElem?_eq_some_iff.mp h).1
        simpa using this
      rw [List.getElem?_set_self hlt] at h
      cases h
    have n1 := no _ _ h1
    have n2 := no _ _ h2
    rw [List.getElem?_set_ne (Ne.symm n1)] at h1 h3
    rw [List.getElem?_set_ne (Ne.symm n2)] at h2 ⊢
    exact F.apart j k ds es a hjk h1 h2 h3
section
variable {X : Cx} {cls : Nat → Addr} {E : XK} {a b c : Expr} {f g h : Rho → M Dt} {pos : Pos} {fs : Rho → M (List Dt)} {es : List Expr}
theorem gv_name {i : Nat} {x : Str} (h : PG X (.Name x pos) (gName i)) : PG X (.Name x pos) (gM X.K (gNm i)) := h.imp fun v σ H Q ⟨O, A, ρ, d, F, r, z, ρ', e, q⟩ => by
  cases e
  exact q _ (F.put i r z)
theorem gvs_nil : PGs X [] (gsM X.K gZn) := pgs_nil.imp fun v σ H Q ⟨O, A, ρ, ds, F, r, z, ρ', e, q⟩ => by
  cases ds with
  | nil =>
    cases e
    simp only [Reps] at r
    exact ⟨r, q _ F⟩
  | cons d ds => cases e
theorem gvs_cons {g : GM} {gs : List Dt → Rho → M Rho} (h1 : PG X a (gM X.K g)) (h2 : PGs X es (gsM X.K gs)) (hs : (assignEach (a :: es) X.env).map (·.2) = assign a X.env :: (assignEach es X.env).map (·.2) := by rfl) : PGs X (a :: es) (gsM X.K (gZc g gs)) := (pgs_cons h1 h2 hs).imp fun v σ H Q ⟨O, A, ρ, ds, F, r, z, ρ', e, q⟩ => by
  cases ds with
  | nil => cases e
  | cons d ds =>
    simp only [Reps] at r
    obtain ⟨x, t, rfl, r1, r2⟩ := r
    simp only [gZc] at e
    cases hg : g d ρ with
    | ok ρ1 =>
      rw [hg] at e
      exact ⟨x, t, rfl, O, A, ρ, d, F, r1, z.1, ρ1, hg, fun σ1 F1 => ⟨O, A, ρ1, ds, F1, r2, z.2, ρ', e, q⟩⟩
    | ex c => rw [hg] at e; cases e
    | bad => rw [hg] at e; cases e
def gTupL (K : PySem.W.Frag) (n : Nat) (t : TGs) : TG := fun v σ H Q => ∃ a xs, v = .ref a ∧ SqL K H a xs ∧ xs.length = n ∧ t xs σ H Q
theorem pg_tupL {k : Nat} {t : TGs} {n : Nat} (hc : X.calm = true) (h : PGs X es t) (hn : (assignEach es X.env).length = n) (hst : (assignEach es X.env).findIdx? (·.1) = none) : PG X (.Tuple es k pos) (gTupL X.K n t) := by
  intro pins s σ H v u Q I r hw
  obtain ⟨a, xs, e1, hq, hl, hw⟩ := hw
  subst e1
  cases r
  obtain ⟨its, rv, pl, hz⟩ := I.list hq
  rw [assign_Tuple]
  refine wpAny_bind (wpAny_standAt ?_)
  unfold unpack
  rw [hst, show (assignEach es X.env).length = its.toArray.size by simp [hn, ← hl, rv.length]]
  refine wpAny_bind (wpAny_holding (kun_itemsOf (I.ok.hd hc) pl.isList fun h' hx => ?_))
  have I1 : Inv X pins σ H { s with heap := h' } := I.kept (t' := s.toks) fun b o e => hx b o (Nat.ne_of_lt (Heap.lt_size e)) e
  exact h pins _ σ H xs _ Q I1 (by simpa using rv) hw
theorem PG.or {e : Expr} {t t' : TG} (h : PG X e t) (h' : PG X e t') : PG X e (fun v σ H Q => t v σ H Q ∨ t' v σ H Q) := fun pins s σ H v u Q I r hw => by
  rcases hw with hw | hw
  · exact h pins s σ H v u Q I r hw
  · exact h' pins s σ H v u Q I r hw
theorem gv_tup {k n : Nat} {gs : List Dt → Rho → M Rho} (hc : X.calm = true) (h : PGs X es (gsM X.K gs)) (hn : (assignEach es X.env).length = n := by rfl) (hst : (assignEach es X.env).findIdx? (·.1) = none := by rfl) : PG X (.Tuple es k pos) (gM X.K (gTp n gs)) := by
  refine ((pg_tup hc h hn hst).or (pg_tupL hc h hn hst)).imp fun v σ H Q ⟨O, A, ρ, d, F, r, z, ρ', e, q⟩ => ?_
  cases d with
  | tup ds =>
    simp only [gTp] at e
    split at e
    · rename_i hl
      obtain ⟨p, xs, rfl, h1, h2⟩ := repT r
      exact .inl ⟨p, xs, rfl, hid_same.seqT h1, by rw [← h2.length]; exact hl, O, A, ρ, ds, F, h2, z.2, ρ', e, q⟩
    · cases e
  | lst ds =>
    simp only [gTp] at e
    split at e
    · rename_i hl
      obtain ⟨p, xs, rfl, h1, h2⟩ := repL r
      exact .inr ⟨p, xs, rfl, hid_same.seq h1, by rw [← h2.length]; exact hl, O, A, ρ, ds, F, h2, z.2, ρ', e, q⟩
    · cases e
  | _ => cases e
end
/-- the first k names alone are changed -/
def GK (k : Nat) (g : GM) : Prop := ∀ d ρ ρ', g d ρ = .ok ρ' → ρ'.length = ρ.length ∧ ∀ i, k ≤ i → ρ'[i]? = ρ[i]?
def GKs (k : Nat) (g : List Dt → Rho → M Rho) : Prop := ∀ d ρ ρ', g d ρ = .ok ρ' → ρ'.length = ρ.length ∧ ∀ i, k ≤ i → ρ'[i]? = ρ[i]?
theorem gk_nm {k i : Nat} (h : i < k) : GK k (gNm i) := fun d ρ ρ' e => by
  cases e
  refine ⟨by simp [putV], fun j hj => ?_⟩
  unfold putV
  rw [List.getElem?_set_ne (by omega)]
theorem gks_nil {k : Nat} : GKs k gZn := fun ds ρ ρ' e => by
  cases ds with
  | nil => cases e; exact ⟨rfl, fun _ _ => rfl⟩
  | cons d ds => cases e
theorem gks_cons {k : Nat} {g : GM} {gs : List Dt → Rho → M Rho} (h1 : GK k g) (h2 : GKs k gs) : GKs k (gZc g gs) := fun ds ρ ρ' e => by
  cases ds with
  | nil => cases e
  | cons d ds =>
    simp only [gZc] at e
    cases hg : g d ρ with
    | ok ρ1 =>
      rw [hg] at e
      obtain ⟨a1, a2⟩ := h1 d ρ ρ1 hg
      obtain ⟨b1, b2⟩ := h2 ds ρ1 ρ' e
      exact ⟨b1.trans a1, fun i hi => (b2 i hi).trans (a2 i hi)⟩
    | ex c => rw [hg] at e; cases e
    | bad => rw [hg] at e; cases e
theorem gk_tp {k n : Nat} {gs : List Dt → Rho → M Rho} (h : GKs k gs) : GK k (gTp n gs) := fun d ρ ρ' e => by
  cases d with
  | tup ds =>
    simp only [gTp] at e
    split at e
    · exact h ds ρ ρ' e
    · cases e
  | lst ds =>
    simp only [gTp] at e
    split at e
    · exact h ds ρ ρ' e
    · cases e
  | _ => cases e
/-! ### comprehensions -/
theorem startR_len (k : Nat) (fr : List Nat) (ρ : Rho) : (startR k fr ρ).length = k + fr.length := by simp [startR]
theorem startR_no {k : Nat} {fr : List Nat} {ρ : Rho} {i : Nat} (h : i < k) : (startR k fr ρ)[i]? = some .no := by
  unfold startR
  rw [List.getElem?_append_left (by simpa using h)]
  simp [h]
theorem startR_val {k : Nat} {fr : List Nat} {ρ : Rho} {i : Nat} {b : Bd} (h : (startR k fr ρ)[i]? = some b) : b = .no ∨ ∃ j m d, i = k + j ∧ fr[j]? = some m ∧ ρ[m]? = some (.val d) ∧ b = .val d := by
  by_cases hi : i < k
  · rw [startR_no hi] at h
    cases h
    exact .inl rfl
  · unfold startR at h
    rw [List.getElem?_append_right (by simp; omega)] at h
    simp only [List.length_replicate, List.getElem?_map, Option.map_eq_some_iff] at h
    obtain ⟨m, hm, hb⟩ := h
    unfold vOnly at hb
    split at hb
    · rename_i d hd
      exact .inr ⟨i - k, m, d, by omega, hm, hd, hb.symm⟩
    · exact .inl hb.symm
/-- the entry of the block -/
theorem Fit.startC {K : PySem.W.Frag} {O A : List Addr} {ρ : Rho} {σ : St} {H : Hp} (F : Fit K O A ρ σ H) (k : Nat) (fr : List Nat) : Fit K O A (startR k fr ρ) (L2.startC k fr σ) H := by
  refine ⟨by rw [startR_len]; simp [L2.startC], F.liv, F.sub, fun i d h => ?_, fun i ds h => ?_, fun i j ds es a _ h => ?_⟩
  · rcases startR_val h with z | ⟨j, m, d', rfl, hm, hd, z⟩
    · cases z
    · cases z
      obtain ⟨v, h1, h2, h3⟩ := F.val m d hd
      refine ⟨v, ?_, h2, h3⟩
      unfold L2.startC
      rw [List.getElem?_append_right (by simp)]
      simp [hm, h1]
  · rcases startR_val h with z | ⟨j, m, d', _, _, _, z⟩ <;> cases z
  · rcases startR_val h with z | ⟨j, m, d', _, _, _, z⟩ <;> cases z
theorem Fit.back {K : PySem.W.Frag} {O A : List Addr} {ρ ρ0 : Rho} {σ : St} {H : Hp} (F : Fit K O A ρ σ H) (hl : ρ.length = ρ0.length) (hv : ∀ (i : Nat) d, ρ0[i]? = some (.val d) → ρ[i]? = some (.val d)) (ho : ∀ (i : Nat) ds, ρ0[i]? ≠ some (.own ds)) : Fit K O A ρ0 σ H :=
  ⟨by rw [← hl]; exact F.len, F.liv, F.sub, fun i d h => F.val i d (hv i d h), fun i ds h => (ho i ds h).elim, fun i _ ds _ _ _ h => (ho i ds h).elim⟩
theorem Liv.cons {H : Hp} {A : List Addr} {D : Addr} {o : HO} (h : Liv H A) (hD : H D = some o) : Liv H (D :: A) := fun a ha => by
  rcases List.mem_cons.mp ha with z | z
  · subst z; rw [hD]; simp
  · exact h a z
theorem hid_upd_in {H : Hp} {A : List Addr} {D : Addr} {o : HO} (h : D ∈ A) : hid (upd H D o) A = hid H A := by
  funext b
  unfold hid
  by_cases hb : b ∈ A
  · rw [if_pos hb, if_pos hb]
  · rw [if_neg hb, if_neg hb]
    exact upd_ne fun z => hb (z ▸ h)
theorem comM_cons {g : GM} {tc : Rho → M Bool} {te : Rho → M Dt} {ρ0 : Rho} {d : Dt} {ds : List Dt} {xs : List Dt} (h : comM g tc te ρ0 (d :: ds) = .ok xs) :
    ∃ ρ1, g d ρ0 = .ok ρ1 ∧ ((tc ρ1 = .ok false ∧ comM g tc te ρ0 ds = .ok xs) ∨ (tc ρ1 = .ok true ∧ ∃ x ys, te ρ1 = .ok x ∧ comM g tc te ρ0 ds = .ok ys ∧ xs = x :: ys)) := by
  simp only [comM] at h
  cases hg : g d ρ0 with
  | ok ρ1 =>
    rw [hg] at h
    simp only [bd_ok] at h
    refine ⟨ρ1, rfl, ?_⟩
    cases ht : tc ρ1 with
    | ok b =>
      rw [ht] at h
      simp only [bd_ok] at h
      cases b with
      | false => exact .inl ⟨rfl, h⟩
      | true =>
        simp only [if_true] at h
        cases hx : te ρ1 with
        | ok x =>
          rw [hx] at h
          simp only [bd_ok] at h
          cases hr : comM g tc te ρ0 ds with
          | ok ys => rw [hr] at h; simp only [bd_ok] at h; cases h; exact .inr ⟨rfl, x, ys, rfl, rfl, rfl⟩
          | ex c => rw [hr] at h; cases h
          | bad => rw [hr] at h; cases h
        | ex c => rw [hx] at h; cases h
        | bad => rw [hx] at h; cases h
    | ex c => rw [ht] at h; cases h
    | bad => rw [ht] at h; cases h
  | ex c => rw [hg] at h; cases h
  | bad => rw [hg] at h; cases h
theorem rd_comp {K : PySem.W.Frag} {cls : Nat → Addr} {k : Nat} {fr : List Nat} {g : GM} {tc : Rho → M Bool} {te : Rho → M Dt} {O A : List Addr} {ρ : Rho} {σ : St} {J : It} {H1 : Hp} {Q : VK} {ds xs : List Dt} (F : Fit K O A ρ σ H1) (hk : GK k g) (hJ : ItD K A J ds H1)
    (hx : comM g tc te (startR k fr ρ) ds = .ok xs) (fin : ∀ v H', Same H1 H' → Rep K (hid H' A) (.lst xs) v → sms xs → xs.length ≤ 10000 → Q v H') : rdComp k fr (gM K g) (tMB K cls E0 tc) (tM K cls E0 te) σ J H1 Q := by
  intro D hD
  have hDA : D ∉ A := F.liv.fresh hD
  have ho : ∀ (i : Nat) ds, (startR k fr ρ)[i]? ≠ some (.own ds) := fun i ds h => by
    rcases startR_val h with z | ⟨j, m, d', _, _, _, z⟩ <;> cases z
  have s0 : Same H1 (upd H1 D (.lst [])) := .upd hD
  have sD : ∀ {H'}, Same H1 H' → Same (hid H1 A) (hid H' (D :: A)) := fun {H'} s b o e => by
    obtain ⟨h1, h2⟩ := of_hid e
    have hb : b ∉ D :: A := fun z => by
      rcases List.mem_cons.mp z with z | z
      · subst z; rw [hD] at h2; cases h2
      · exact h1 z
    rw [hid_ne hb]
    exact s b o h2
  have FD : Fit K [] (D :: A) (startR k fr ρ) (startC k fr σ) (upd H1 D (.lst [])) := by
    have F1 := F.startC k fr
    refine ⟨F1.len, (F.liv.mono s0).cons upd_same, (fun a z => nomatch z), fun i d h => ?_, fun i ds h => (ho i ds h).elim, fun i _ ds _ _ _ h => (ho i ds h).elim⟩
    obtain ⟨v, h1, h2, h3⟩ := F1.val i d h
    exact ⟨v, h1, h2.mono (sD s0), h3⟩
  refine ⟨fun i m ys σ' H' => i ≤ ds.length ∧ m = ds.length - i ∧ H' D = some (.lst ys) ∧ Same H1 H' ∧ Fit K [] (D :: A) (startR k fr ρ) σ' H' ∧ ∃ us ws, comM g tc te (startR k fr ρ) (ds.drop i) = .ok ws ∧ xs = us ++ ws ∧ Reps K (hid H' (D :: A)) us ys ∧ sms us ∧ us.length ≤ i,
    ⟨ds.length, Nat.zero_le _, rfl, upd_same, s0, FD, [], xs, hx, rfl, .nil, trivial, Nat.zero_le _⟩, ?_⟩
  rintro i m ys σ' H' ⟨hi, rfl, hD', sm', F', us, ws, hw, rfl, ru, zu, lu⟩
  refine ⟨hD', ?_⟩
  have few := hJ.few
  by_cases hlt : i < ds.length
  · refine .inr ⟨hJ.go i H' hlt (hid_same.trans sm'), ds.length - (i + 1), by omega, fun x H2 y => ?_⟩
    obtain ⟨sy, d, hd, rd⟩ := hJ.yl i H' x H2 (D :: A) hlt F'.liv (sD sm') y
    have hd0 : ds.drop i = d :: ds.drop (i + 1) := by
      rw [List.drop_eq_getElem_cons hlt]
      congr 1
      have := List.getElem?_eq_getElem hlt
      rw [hd] at this
      exact (Option.some.inj this).symm
    rw [hd0] at hw
    obtain ⟨ρ1, hg, hcase⟩ := comM_cons hw
    refine ⟨[], D :: A, _, d, F'.mono sy, rd, sms_mem hJ.small (List.mem_of_getElem? hd), ρ1, hg, fun σ2 F2 => ?_⟩
    obtain ⟨k1, k2⟩ := hk d _ _ hg
    have bk : ∀ {σ3 H3}, Fit K [] (D :: A) ρ1 σ3 H3 → Fit K [] (D :: A) (startR k fr ρ) σ3 H3 := fun F3 => F3.back k1 (fun j e hj => by
      have hkj : k ≤ j := by
        by_cases z : j < k
        · rw [startR_no z] at hj; cases hj
        · omega
      rw [k2 j hkj]
      exact hj) ho
    rcases hcase with ⟨ht, hr⟩ | ⟨ht, x', ys', hte, hr, rfl⟩
    · refine ⟨[], D :: A, ρ1, F2, ?_⟩
      rw [ht]
      intro H4 s4
      simp only [Bool.false_eq_true, if_false]
      have s24 := sy.trans s4
      exact ⟨hlt, trivial, s24 _ _ hD', sm'.trans s24, bk (F2.mono s4), us, ws, hr, rfl, ru.mono (s24.hid _), zu, by omega⟩
    · refine ⟨[], D :: A, ρ1, F2, ?_⟩
      rw [ht]
      intro H4 s4
      simp only [if_true]
      refine ⟨[], D :: A, ρ1, F2.mono s4, ?_⟩
      rw [hte]
      intro v H5 s5 r5 z5
      have s25 := (sy.trans s4).trans s5
      have hl := ru.length
      refine ⟨s25 _ _ hD', Nat.lt_of_le_of_lt (by omega : ys.length ≤ 10000) (by decide), hlt, trivial, upd_same, fun b o e => ?_, ?_, us ++ [x'], ys', hr, by simp, ?_, sms_append zu ⟨z5, trivial⟩, by simp; omega⟩
      · rw [upd_ne (ne_of_none e hD)]
        exact s25 b o (sm' b o e)
      · have F5 := bk ((F2.mono s4).mono s5)
        refine ⟨F5.len, fun a' ha => ?_, (fun a z => nomatch z), fun j e h => ?_, fun j ds h => (ho j ds h).elim, fun j _ ds _ _ _ h => (ho j ds h).elim⟩
        · by_cases hz : a' = D
          · rw [hz, upd_same]; simp
          · rw [upd_ne hz]; exact F5.liv a' ha
        · rw [hid_upd_in List.mem_cons_self]
          exact F5.val j e h
      · rw [hid_upd_in List.mem_cons_self]
        exact (ru.mono (s25.hid _)).append (.cons r5 .nil)
  · have e : i = ds.length := by omega
    subst e
    rw [List.drop_length] at hw
    cases hw
    rw [List.append_nil] at fin
    have hl := ru.length
    refine .inl ⟨hJ.stop H' (hid_same.trans sm'), fin (.ref D) H' sm' (rep_lst (by rw [hid_ne hDA]; exact hD') (ru.mono fun b o e => ?_)) zu (by omega)⟩
    obtain ⟨h1, h2⟩ := of_hid e
    rw [hid_ne fun z => h1 (List.mem_cons_of_mem _ z)]
    exact h2
section
variable {X : Cx} {cls : Nat → Addr} {E : XK} {a b c : Expr} {f : Rho → M Dt} {pos : Pos} {scope : Scope} {N : List Str} {k : Nat} {fr : List Nat} {tg iter elt : Expr} {ifs : List Expr} {ι : IM} {g : GM} {tc : Rho → M Bool} {te : Rho → M Dt}
theorem t_comp (hk : GK k g) (σ : St) (H : Hp) (Q : VK) (q : tM X.K cls E (pComp k fr ι g tc te) σ H Q) : tComp k fr (iM X.K cls E ι) (gM X.K g) (tMB X.K cls E0 tc) (tM X.K cls E0 te) σ H Q := by
  obtain ⟨O, A, ρ, F, q⟩ := q
  refine ⟨O, A, ρ, F, Rg.bind q fun ds _ q1 => ?_⟩
  intro J H1 s1 hJ
  cases hm : comM g tc te (startR k fr ρ) ds with
  | ok xs =>
    have q2 : Res X.K cls A E (szL xs) H Q := by rw [hm] at q1; exact q1
    refine rd_comp (F.mono s1) hk hJ hm fun v H' s' r z zl => ?_
    unfold szL at q2
    rw [if_pos zl] at q2
    exact q2 v H' (s1.trans s') r ⟨zl, z⟩
  | ex c => rw [hm] at q1; exact (show False from q1).elim
  | bad => rw [hm] at q1; exact (show False from q1).elim
theorem tv_none : PTs X [] (tMB X.K cls E tYs) := fun pins s σ H Q I ⟨O, A, ρ, F, q⟩ => pts_nil pins s σ H Q I (q H (.refl _))
theorem tv_one (h : Tv X cls E c tc) : PTs X [c] (tMB X.K cls E tc) := pts_one h
theorem ev_comp (hk : GK k g) (hc : X.calm = true) (S : CScope X scope N k fr) (hi : Iv X cls E tg iter ι) (hg : ∀ pins fp s H, PG (cxC X scope N pins fp s H) tg (gM X.K g)) (ht : ∀ pins fp s H, PTs (cxC X scope N pins fp s H) ifs (tMB X.K cls E0 tc))
    (he : ∀ pins fp s H, PE (cxC X scope N pins fp s H) elt (tM X.K cls E0 te)) (hs : ∀ x, foldedSetIterable iter X.env x = pure x := by intro _; rfl) : Ev X cls E (.ListComp elt [⟨tg, iter, ifs, 0⟩] scope pos) (pComp k fr ι g tc te) :=
  (pe_comp hc S hi hg ht he hs).imp (t_comp hk)
end
end L2

set_option Elab.async false
set_option linter.all false
set_option maxRecDepth 100000
set_option maxHeartbeats 4000000
namespace L2
open PySem PySem.Spec PyProof.Rows PySem.W
/-! ### statements -/
/-- the state within a def: what was there at first (Hin) stays; os is what the names own -/
def Sto (K : PySem.W.Frag) (Hin : Hp) (A₀ : List Addr) (os : List Addr) (ρ : Rho) (σ : St) (H : Hp) : Prop := Same Hin H ∧ Liv Hin A₀ ∧ (∀ a ∈ os, Hin a = none) ∧ Fit K os (os ++ A₀) ρ σ H
def Stt (K : PySem.W.Frag) (Hin : Hp) (A₀ : List Addr) (ρ : Rho) (σ : St) (H : Hp) : Prop := ∃ os, Sto K Hin A₀ os ρ σ H
def SRes (K : PySem.W.Frag) (cls : Nat → Addr) (E : XK) (Hin : Hp) (A₀ : List Addr) (m : M Fl) (D : Ends) : Prop := match m with
  | .ok (.nx ρ) => ∀ σ H, Stt K Hin A₀ ρ σ H → D.nx σ H
  | .ok (.bk ρ) => ∀ σ H, Stt K Hin A₀ ρ σ H → D.bk σ H
  | .ok (.ct ρ) => ∀ σ H, Stt K Hin A₀ ρ σ H → D.ct σ H
  | .ok (.rt d) => ∀ v H, Same Hin H → Rep K (hid H A₀) d v → sm d → D.rt v H
  | .ex c => ∀ H, Same Hin H → E (.ref (cls c)) none H
  | .bad => False
def sM (K : PySem.W.Frag) (cls : Nat → Addr) (E : XK) (f : SM) : TS := fun D σ H => ∃ Hin A₀ ρ, Stt K Hin A₀ ρ σ H ∧ SRes K cls E Hin A₀ (f ρ) D
abbrev Sv (X : Cx) (cls : Nat → Addr) (E : XK) (st : Stmt) (f : SM) : Prop := PS X st (sM X.K cls E f)
abbrev Bv (X : Cx) (cls : Nat → Addr) (E : XK) (st : List Stmt) (f : SM) : Prop := PSs X st (sM X.K cls E f)
theorem PS.imp {X : Cx} {e : Stmt} {t t' : TS} (h : PS X e t') (i : ∀ D σ H, t D σ H → t' D σ H) : PS X e t := fun pins s σ H D I hw => h pins s σ H D I (i D σ H hw)
theorem PSs.imp {X : Cx} {e : List Stmt} {t t' : TS} (h : PSs X e t') (i : ∀ D σ H, t D σ H → t' D σ H) : PSs X e t := fun pins s σ H D I hw => h pins s σ H D I (i D σ H hw)
theorem PS.nox {X : Cx} {st : Stmt} {t : TS} (h : PS X.nox st t) : PS X st t := fun pins s σ H D I hw =>
  wpAny_mono (h pins s σ H D (I.wish _) hw) (fun _ _ q => q.unwish) fun _ _ z => False.elim z
section
variable {K : PySem.W.Frag} {cls : Nat → Addr} {E : XK} {Hin : Hp} {A₀ : List Addr} {ρ : Rho} {σ : St} {H : Hp} {D : Ends}
theorem hid_app {H : Hp} {A B : List Addr} : Same (hid H (A ++ B)) (hid H B) := fun b o e => by
  obtain ⟨h1, h2⟩ := of_hid e
  rw [hid_ne fun z => h1 (List.mem_append_right _ z)]
  exact h2
/-- what an expression owes, from what the statement owes -/
theorem res_of {m : M Dt} {k : Dt → M Fl} {os : List Addr} {Q : VK} (s0 : Same Hin H) (h : SRes K cls E Hin A₀ (m.bd k) D)
    (f : ∀ d v H', m = .ok d → SRes K cls E Hin A₀ (k d) D → Same H H' → Rep K (hid H' (os ++ A₀)) d v → sm d → Q v H') : Res K cls (os ++ A₀) E m H Q := by
  cases m with
  | ok d => exact fun v H' s r z => f d v H' rfl h s r z
  | ex c => exact fun H' s => h H' (s0.trans s)
  | bad => exact h
theorem resB_of {m : M Bool} {k : Bool → M Fl} {Q : Bool → Hp → Prop} (s0 : Same Hin H) (h : SRes K cls E Hin A₀ (m.bd k) D)
    (f : ∀ d H', m = .ok d → SRes K cls E Hin A₀ (k d) D → Same H H' → Q d H') : ResB cls E m H Q := by
  cases m with
  | ok d => exact fun H' s => f d H' rfl h s
  | ex c => exact fun H' s => h H' (s0.trans s)
  | bad => exact h
end
section
variable {X : Cx} {cls : Nat → Addr} {E : XK} {a b c : Expr} {f g h : Rho → M Dt} {pos : Pos} {st : Stmt} {rest : List Stmt} {s t : SM}
theorem bv_nil : Bv X cls E [] sSkip := pss_nil.imp fun D σ H ⟨Hin, A₀, ρ, S, q⟩ => q σ H S
theorem t_seq {D : Ends} {σ : St} {H : Hp} (q : sM X.K cls E (sSeq s t) D σ H) : tSeq (sM X.K cls E s) (sM X.K cls E t) D σ H := by
  obtain ⟨Hin, A₀, ρ, S, q⟩ := q
  refine ⟨Hin, A₀, ρ, S, ?_⟩
  unfold sSeq at q
  cases hm : s ρ with
  | ok fl =>
    rw [hm] at q
    cases fl with
    | nx ρ' => exact fun σ' H' S' => ⟨Hin, A₀, ρ', S', q⟩
    | bk ρ' => exact q
    | ct ρ' => exact q
    | rt d => exact q
  | ex c => rw [hm] at q; exact q
  | bad => rw [hm] at q; exact q
theorem bv_cons (h1 : Sv X cls E st s) (h2 : Bv X cls E rest t) : Bv X cls E (st :: rest) (sSeq s t) := (pss_cons h1 h2).imp fun D σ H q => t_seq q
theorem bv_one (h1 : Sv X cls E st s) : Bv X cls E [st] s := pss_one h1
/-- from here on what the name i owned is a value -/
theorem Stt.rel {K : PySem.W.Frag} {Hin : Hp} {A₀ : List Addr} {ρ : Rho} {σ : St} {H : Hp} (S : Stt K Hin A₀ ρ σ H) (i : Nat) : Stt K Hin A₀ (L2.rel i ρ) σ H := by
  unfold L2.rel relB
  split
  · rename_i ds hd
    obtain ⟨os, s0, L0, fr, F⟩ := S
    obtain ⟨a, xs, h1, h2, h3, h4, h5, h6⟩ := F.own i ds hd
    have haA : a ∉ A₀ := fun z => L0 a z (fr a h2)
    have hlt : i < ρ.length := (List.getElem?_eq_some_iff.mp hd).1
    refine ⟨os.filter fun b => decide (b ≠ a), s0, L0, fun b hb => fr b (List.mem_filter.mp hb).1, ?_⟩
    have sub : ∀ b, b ∈ (os.filter fun b => decide (b ≠ a)) ++ A₀ → b ∈ os ++ A₀ := fun b z => by
      rcases List.mem_append.mp z with z | z
      · exact List.mem_append_left _ (List.mem_filter.mp z).1
      · exact List.mem_append_right _ z
    have sm' : Same (hid H (os ++ A₀)) (hid H ((os.filter fun b => decide (b ≠ a)) ++ A₀)) := fun b o e => by
      obtain ⟨e1, e2⟩ := of_hid e
      rw [hid_ne fun z => e1 (sub b z)]
      exact e2
    refine ⟨by simp [F.len], fun b hb => F.liv b (sub b hb), fun b hb => List.mem_append_left _ hb, fun j e he => ?_, fun j es he => ?_, fun j k ds' es b hjk e1 e2 e3 => ?_⟩
    · by_cases hj : j = i
      · subst hj
        rw [List.getElem?_set_self hlt] at he
        cases he
        refine ⟨.ref a, h1, rep_lst ?_ (h4.mono sm'), ⟨h6, h5⟩⟩
        rw [hid_ne]
        · exact h3
        · intro z
          rcases List.mem_append.mp z with z | z
          · simp at z
          · exact haA z
      · rw [List.getElem?_set_ne (Ne.symm hj)] at he
        obtain ⟨v, e1, e2, e3⟩ := F.val j e he
        exact ⟨v, e1, e2.mono sm', e3⟩
    · by_cases hj : j = i
      · subst hj
        rw [List.getElem?_set_self hlt] at he
        cases he
      · rw [List.getElem?_set_ne (Ne.symm hj)] at he
        obtain ⟨b, ys, e1, e2, e3, e4, e5⟩ := F.own j es he
        have hba : b ≠ a := fun z => by
          subst z
          exact F.apart i j ds es b (Ne.symm hj) hd he h1 e1
        exact ⟨b, ys, e1, List.mem_filter.mpr ⟨e2, by simpa using hba⟩, e3, e4.mono sm', e5⟩
    · have no : ∀ (m : Nat) es', (ρ.set i (.val (.lst ds)))[m]? = some (.own es') → m ≠ i := fun m es' h e => by
        subst e
        rw [List.getElem?_set_self hlt] at h
        cases h
      have n1 := no _ _ e1
      have n2 := no _ _ e2
      rw [List.getElem?_set_ne (Ne.symm n1)] at e1
      rw [List.getElem?_set_ne (Ne.symm n2)] at e2
      exact F.apart j k ds' es b hjk e1 e2 e3
  · exact S
theorem sv_ret (he : Ev X cls E a f) : Sv X cls E (.Return (some a) pos) (sRet f) := (ps_ret he).imp fun D σ H ⟨Hin, A₀, ρ, ⟨os, s0, L0, fr, F⟩, q⟩ =>
  ⟨os, os ++ A₀, ρ, F, res_of s0 q fun d v H' _ q1 s' r z => q1 v H' (s0.trans s') (r.mono hid_app) z⟩
theorem sv_drop (he : Ev X cls E a f) (hs : swapsWith a none pos.line X.env = pure false := by rfl) : Sv X cls E (.Expr a pos) (sDrop f) := (ps_expr he hs).imp fun D σ H ⟨Hin, A₀, ρ, ⟨os, s0, L0, fr, F⟩, q⟩ =>
  ⟨os, os ++ A₀, ρ, F, res_of s0 q fun d v H' _ q1 s' r z => q1 σ H' ⟨os, s0.trans s', L0, fr, F.mono s'⟩⟩
theorem t_asg {g : GM} {D : Ends} {σ : St} {H : Hp} (q : sM X.K cls E (sAsg f g) D σ H) : tAsg (tM X.K cls E f) (gM X.K g) D σ H := by
  obtain ⟨Hin, A₀, ρ, ⟨os, s0, L0, fr, F⟩, q⟩ := q
  refine ⟨os, os ++ A₀, ρ, F, res_of s0 q fun d v H' _ q1 s' r z => ?_⟩
  cases hg : g d ρ with
  | ok ρ' =>
    rw [hg] at q1
    exact ⟨os, os ++ A₀, ρ, d, F.mono s', r, z, ρ', hg, fun σ' F' => q1 σ' H' ⟨os, s0.trans s', L0, fr, F'⟩⟩
  | ex c => rw [hg] at q1; exact (show False from q1).elim
  | bad => rw [hg] at q1; exact (show False from q1).elim
theorem sv_asg {g : GM} {tg : Expr} (he : Ev X cls E a f) (hg : PG X tg (gM X.K g)) (hs : swapsWithSole [tg] a pos.line X.env = pure false := by rfl) (hw : swappedStores [tg] a X.env = pure none := by rfl)
    (h1 : (assignEach [tg] X.env).map (·.2) = [assign tg X.env] := by rfl) : Sv X cls E (.Assign [tg] a pos) (sAsg f g) := (ps_asg he hg hs hw h1).imp fun D σ H q => t_asg q
theorem t_asgN {i : Nat} {te : TE} (ht : ∀ σ H Q, tM X.K cls E f σ H Q → te σ H Q) {D : Ends} {σ : St} {H : Hp} (q : sM X.K cls E (sAsg f (gNm i)) D σ H) : tAsg te (gName i) D σ H := by
  obtain ⟨Hin, A₀, ρ, ⟨os, s0, L0, fr, F⟩, q⟩ := q
  refine ht σ H _ ⟨os, os ++ A₀, ρ, F, res_of s0 q fun d v H' _ q1 s' r z => ?_⟩
  exact q1 _ H' ⟨os, s0.trans s', L0, fr, (F.mono s').put i r z⟩
theorem sv_set {i : Nat} {x : Str} {pos' : Pos} (hN : X.N.Nodup) (hi : X.N[i]? = some x) (hx : Loc X.env.scope x) (he : Ev X cls E a f) (hs : swapsWith a (some (.Name x pos')) pos.line X.env = pure false := by rfl)
    (hf : X.fn x = true ∨ X.env.scope.names.lookup x = some .local := by first | exact .inl rfl | exact .inr rfl | assumption) : Sv X cls E (.Assign [.Name x pos'] a pos) (sAsg f (gNm i)) := (ps_set hN hi hx he hs hf).imp fun D σ H q => t_asgN (fun _ _ _ z => z) q
theorem sv_setComp {i : Nat} {x : Str} {pos' spos : Pos} {scope : Scope} {N : List Str} {k : Nat} {fr : List Nat} {tg iter elt : Expr} {ifs : List Expr} {ι : IM} {g : GM} {tc : Rho → M Bool} {te : Rho → M Dt} (hk : GK k g) (hc : X.calm = true) (S : CScope X scope N k fr) (hi : Iv X cls E tg iter ι)
    (hg : ∀ pins fp s H, PG (cxC X scope N pins fp s H) tg (gM X.K g)) (ht : ∀ pins fp s H, PTs (cxC X scope N pins fp s H) ifs (tMB X.K cls E0 tc))
    (he : ∀ pins fp s H, PE (cxC X scope N pins fp s H) elt (tM X.K cls E0 te)) (hN : X.N.Nodup) (hix : X.N[i]? = some x) (hx : X.env.scope.names.lookup x = some .local)
    (hsw : swapsWith (.ListComp elt [⟨tg, iter, ifs, 0⟩] scope pos) (some (.Name x pos')) spos.line X.env = pure true := by rfl)
    (hs : ∀ x, foldedSetIterable iter X.env x = pure x := by intro _; rfl) : Sv X cls E (.Assign [.Name x pos'] (.ListComp elt [⟨tg, iter, ifs, 0⟩] scope pos) spos) (sAsg (pComp k fr ι g tc te) (gNm i)) :=
  (ps_setComp hc S hi hg ht he hN hix hx hsw hs).imp fun D σ H q => t_asgN (t_comp hk) q
theorem sv_par {fs : Rho → M (List Dt)} {i j : Nat} {x y : Str} {px py pt : Pos} {kt k2 pt2} (hc : X.calm = true) (hN : X.N.Nodup) (hi : X.N[i]? = some x) (hj : X.N[j]? = some y) (hij : i ≠ j)
    (hx : X.env.scope.names.lookup x = some .local) (hy : X.env.scope.names.lookup y = some .local) (ha : Av X cls E [a, b] fs)
    (hw : swappedStores [.Tuple [.Name x px, .Name y py] kt pt] (.Tuple [a, b] k2 pt2) X.env = pure (some [x, y]))
    (hs : swapsWithSole [.Tuple [.Name x px, .Name y py] kt pt] (.Tuple [a, b] k2 pt2) pos.line X.env = pure false := by rfl) :
    Sv X cls E (.Assign [.Tuple [.Name x px, .Name y py] kt pt] (.Tuple [a, b] k2 pt2) pos) (sPar i j fs) := (ps_par hc hN hi hj hij hx hy ha hw hs).imp fun D σ H ⟨Hin, A₀, ρ, ⟨os, s0, L0, fr, F⟩, q⟩ => by
  refine ⟨os, os ++ A₀, ρ, F, ?_⟩
  unfold sPar at q
  cases hm : fs ρ with
  | ok ds =>
    rw [hm] at q
    intro vs H' s' r z
    simp only [bd_ok] at q
    unfold parK at q
    split at q
    · rename_i d e
      obtain ⟨v, w, rfl, r1, r2⟩ := reps2 r
      exact ⟨v, w, rfl, q _ H' ⟨os, s0.trans s', L0, fr, ((F.mono s').put i r1 z.1).put j r2 z.2.1⟩⟩
    · exact q.elim
  | ex c => rw [hm] at q; exact fun H' s' => q H' (s0.trans s')
  | bad => rw [hm] at q; exact q
theorem sv_if {F G : SM} {tc : Rho → M Bool} {sa sb : List Stmt} (hc : Tv X cls E c tc) (ha : Bv X cls E sa F) (hb : Bv X cls E sb G) : Sv X cls E (.If c sa sb pos) (sIf tc F G) := (ps_if hc ha hb).imp fun D σ H ⟨Hin, A₀, ρ, ⟨os, s0, L0, fr, Ft⟩, q⟩ =>
  ⟨os, os ++ A₀, ρ, Ft, resB_of s0 q fun b H' _ q1 s' => by
    have S' : Stt X.K Hin A₀ ρ σ H' := ⟨os, s0.trans s', L0, fr, Ft.mono s'⟩
    cases b with
    | false =>
      simp only [Bool.false_eq_true, if_false] at q1 ⊢
      exact ⟨Hin, A₀, ρ, S', q1⟩
    | true =>
      simp only [if_true] at q1 ⊢
      exact ⟨Hin, A₀, ρ, S', q1⟩⟩
/-- no refusal leaves -/
theorem sv_nox {st : Stmt} (h : Sv X.nox cls E0 st s) : Sv X cls E st (fun ρ => (s ρ).calm) := (PS.nox h).imp fun D σ H ⟨Hin, A₀, ρ, S, q⟩ => ⟨Hin, A₀, ρ, S, by
  have q : SRes X.K cls E Hin A₀ (s ρ).calm D := q
  cases hm : s ρ with
  | ok fl => rw [hm] at q; cases fl <;> exact q
  | ex c => rw [hm] at q; exact (show False from q).elim
  | bad => rw [hm] at q; exact (show False from q).elim⟩
/-! ### raise -/
abbrev Uv (X : Cx) (cls : Nat → Addr) (E : XK) (e : Expr) (f : Rho → M Unit) : Prop := PE X e (tMU X.K cls E f)
theorem uv_of (h : Ev X cls E a f) : Uv X cls E a (uOf f) := PE.imp h fun σ H Q ⟨O, A, ρ, F, q⟩ => ⟨O, A, ρ, F, Rg.bind q fun d _ q1 v H' s' _ _ => q1 v H' s'⟩
theorem uv_f3 {x y : Str} {j p p' j2 p2} (h : Ev X cls E a f) (hx : x.length ≤ 1000 := by decide +kernel) (hy : y.length ≤ 1000 := by decide +kernel) : Uv X cls E (.JoinedStr [.Constant (.str x) j p, .FormattedValue a (-1) none p', .Constant (.str y) j2 p2] pos) (uInt f) :=
  (pe_fstr3 (pe_str (x := x)) (pe_fmtI h) (pe_str (x := y))).imp fun σ H Q ⟨O, A, ρ, F, q⟩ => by
  refine ⟨_, rfl, hx, O, A, ρ, F, Rg.bind q fun d _ q1 => ?_⟩
  intro v H' s' r z
  cases d with
  | int i =>
    simp only [uIn] at q1
    split at q1
    · rename_i hi
      obtain ⟨i1, i2⟩ := int_len hi.1 hi.2
      exact ⟨i, repI r, i2, _, rfl, i1, _, rfl, hy, fun z => q1 _ H' s'⟩
    · exact (show False from q1).elim
  | _ => exact (show False from q1).elim
theorem sv_raise {x : Str} {np cpos : Pos} {cn : Nat} {fu : Rho → M Unit} (hc : X.calm = true) (R : Rz X E) (hg : Gl X x) (hm : X.mg x = some (.ref (cls cn))) (hK : excIn X.K (cls cn) veMro "ValueError.__new__" = true) (he : Uv X cls E a fu) (hst : isStar a = false := by rfl)
    (hd : (x == ("__debug__" : Str)) = false := by decide) : Sv X cls E (.Raise (some (.Call (.Name x np) [a] [] cpos)) none pos) (sRz cn fu) := (ps_raise hc R hg hm hK he hst hd).imp fun D σ H ⟨Hin, A₀, ρ, ⟨os, s0, L0, fr, F⟩, q⟩ => by
  refine ⟨os, os ++ A₀, ρ, F, ?_⟩
  unfold sRz at q
  cases hm' : fu ρ with
  | ok u =>
    rw [hm'] at q
    exact fun v H' s' => q H' (s0.trans s')
  | ex c => rw [hm'] at q; exact fun H' s' => q H' (s0.trans s')
  | bad => rw [hm'] at q; exact q
/-! ### for -/
theorem Sto.weak {K : PySem.W.Frag} {Hin Hin' : Hp} {A₀ os : List Addr} {ρ : Rho} {σ : St} {H : Hp} (h : Sto K Hin' A₀ os ρ σ H) (s : Same Hin Hin') (L : Liv Hin A₀) : Sto K Hin A₀ os ρ σ H := by
  refine ⟨s.trans h.1, L, fun a ha => ?_, h.2.2.2⟩
  cases q : Hin a with
  | none => rfl
  | some o =>
    have e := s a o q
    rw [h.2.2.1 a ha] at e
    exact nomatch e
theorem t_for {ι : IM} {g : GM} {D : Ends} {σ : St} {H : Hp} (q : sM X.K cls E0 (sFor ι g s) D σ H) : tFor (iM X.K cls E0 ι) (gM X.K g) (sM X.K cls E0 s) D σ H := by
  obtain ⟨Hin, A₀, ρ, ⟨os, s0, L0, fr, F⟩, q⟩ := q
  refine ⟨os, os ++ A₀, ρ, F, ?_⟩
  unfold sFor at q
  cases hm : ι ρ with
  | ex c => rw [hm] at q; exact fun H' s' => q H' (s0.trans s')
  | bad => rw [hm] at q; exact q
  | ok ds =>
    rw [hm] at q
    simp only [bd_ok] at q
    intro J H1 s1 hJ
    have sI : Same Hin (hid H1 os) := fun b o e => by
      rw [hid_ne fun z => by rw [fr b z] at e; cases e]
      exact s1 b o (s0 b o e)
    have L1 : Liv (hid H1 os) A₀ := L0.mono sI
    have sJ : ∀ {H2}, Same (hid H1 os) H2 → Same (hid H1 (os ++ A₀)) H2 := fun s2 b o e => by
      obtain ⟨e1, e2⟩ := of_hid e
      refine s2 b o ?_
      rw [hid_ne fun z => e1 (List.mem_append_left _ z)]
      exact e2
    refine ⟨fun i m σ' H' => i ≤ ds.length ∧ m = ds.length - i ∧ ∃ ρ', Stt X.K (hid H1 os) A₀ ρ' σ' H' ∧ SRes X.K cls E0 Hin A₀ (forM' g s (ds.drop i) ρ') D,
      ⟨ds.length, Nat.zero_le _, rfl, ρ, ⟨os, hid_same, L1, fun a ha => hid_in ha, F.mono s1⟩, q⟩, ?_⟩
    rintro i m σ' H' ⟨hi, rfl, ρ', ⟨os', s', L', fr', F'⟩, q'⟩
    by_cases hlt : i < ds.length
    · refine .inr ⟨hJ.go i H' hlt (sJ s'), fun σ2 H2 => i + 1 ≤ ds.length ∧ ∃ ρ2, Stt X.K (hid H1 os) A₀ ρ2 σ2 H2 ∧ SRes X.K cls E0 Hin A₀ (forM' g s (ds.drop (i + 1)) ρ2) D, fun σ2 H2 ⟨h1, h2⟩ => ⟨ds.length - (i + 1), by omega, h1, rfl, h2⟩, fun x H2 y => ?_⟩
      have sA : Same (hid H1 (os ++ A₀)) (hid H' (os' ++ A₀)) := fun b o e => by
        obtain ⟨e1, e2⟩ := of_hid e
        have e3 : hid H1 os b = some o := by rw [hid_ne fun z => e1 (List.mem_append_left _ z)]; exact e2
        rw [hid_ne]
        · exact s' b o e3
        · intro z
          rcases List.mem_append.mp z with z | z
          · rw [fr' b z] at e3; cases e3
          · exact e1 (List.mem_append_right _ z)
      obtain ⟨sy, d, hd, rd⟩ := hJ.yl i H' x H2 (os' ++ A₀) hlt F'.liv sA y
      have hd0 : ds.drop i = d :: ds.drop (i + 1) := by
        rw [List.drop_eq_getElem_cons hlt]
        congr 1
        have := List.getElem?_eq_getElem hlt
        rw [hd] at this
        exact (Option.some.inj this).symm
      rw [hd0] at q'
      simp only [forM'] at q'
      cases hg : g d ρ' with
      | ex c => rw [hg] at q'; exact (show False from q').elim
      | bad => rw [hg] at q'; exact (show False from q').elim
      | ok ρ1 =>
        rw [hg] at q'
        simp only [calm_ok, bd_ok] at q'
        refine ⟨os', os' ++ A₀, ρ', d, F'.mono sy, rd, sms_mem hJ.small (List.mem_of_getElem? hd), ρ1, hg, fun σ2 F2 => ?_⟩
        refine ⟨hid H1 os, A₀, ρ1, ⟨os', s'.trans sy, L', fr', F2⟩, ?_⟩
        cases hs : s ρ1 with
        | ex c => rw [hs] at q'; exact (show False from q').elim
        | bad => rw [hs] at q'; exact (show False from q').elim
        | ok fl =>
          rw [hs] at q'
          simp only [calm_ok, bd_ok] at q'
          cases fl with
          | nx ρ2 => exact fun σ3 H3 S3 => ⟨hlt, ρ2, S3, q'⟩
          | ct ρ2 => exact fun σ3 H3 S3 => ⟨hlt, ρ2, S3, q'⟩
          | bk ρ2 => exact fun σ3 H3 ⟨os3, S3⟩ => q' σ3 H3 ⟨os3, S3.weak sI L0⟩
          | rt d => exact fun v H3 s3 r z => q' v H3 (sI.trans s3) r z
    · have e : i = ds.length := by omega
      subst e
      rw [List.drop_length] at q'
      exact .inl ⟨hJ.stop H' (sJ s'), q' σ' H' ⟨os', Sto.weak ⟨s', L', fr', F'⟩ sI L0⟩⟩
theorem sv_for0 {iter tg : Expr} {body : List Stmt} {ι : IM} {g : GM} (hc : X.calm = true) (hi : Iv X.nox cls E0 tg iter ι) (hg : PG X.nox tg (gM X.K g)) (hb : Bv X.nox cls E0 body s)
    (hs : ∀ x, foldedSetIterable iter X.env x = pure x := by intro _; rfl) : Sv X cls E (.For tg iter body [] pos) (sForC ι g s) :=
  sv_nox (X := X) ((ps_for (X := X.nox) PassesOwn.never hc hi hg hb hs).imp fun D σ H q => t_for q)
/-! ### defs -/
theorem fn_start {K : PySem.W.Frag} {A : List Addr} {ds : List Dt} {vs : List V} {H : Hp} (L : Liv H A) (r : Reps K (hid H A) ds vs) (z : sms ds) (n : Nat) : Fit K [] A (ds.map Bd.val ++ List.replicate n .no) (vs.map some ++ List.replicate n none) H := by
  have hl := r.length
  have key : ∀ (i : Nat) b, (ds.map Bd.val ++ List.replicate n .no)[i]? = some b → b = .no ∨ ∃ d, b = .val d ∧ ds[i]? = some d := fun i b h => by
    by_cases hi : i < ds.length
    · rw [List.getElem?_append_left (by simpa using hi)] at h
      simp only [List.getElem?_map, Option.map_eq_some_iff] at h
      obtain ⟨d, h1, h2⟩ := h
      exact .inr ⟨d, h2.symm, h1⟩
    · rw [List.getElem?_append_right (by simp; omega)] at h
      exact .inl (List.eq_of_mem_replicate (List.mem_of_getElem? h))
  refine ⟨by simp [hl], L, (fun a z => nomatch z), fun i d h => ?_, fun i es h => ?_, fun i j es fs a _ h => ?_⟩
  · rcases key i _ h with e | ⟨d', e, hd⟩
    · cases e
    · cases e
      have hi : i < ds.length := (List.getElem?_eq_some_iff.mp hd).1
      have hx : vs[i]? = some (vs[i]'(by omega)) := by simp
      obtain ⟨d2, h1, h2⟩ := r.get hx
      rw [hd] at h1
      cases h1
      refine ⟨_, ?_, h2, sms_mem z (List.mem_of_getElem? hd)⟩
      rw [List.getElem?_append_left (by simp; omega)]
      simp
  · rcases key i _ h with e | ⟨d', e, hd⟩ <;> cases e
  · rcases key i _ h with e | ⟨d', e, hd⟩ <;> cases e
end
section
variable {P : Program} {w : World} {K : PySem.W.Frag} {mg : Str → Option Value} {base : Heap} {cls : Nat → Addr}
theorem fn_ok {x qual : Str} {st : Stmt} {f : Addr} {fd : FuncData} {N ps : List Str} {k np n : Nat} {b : SM} (F : Fun K x qual st f fd) (S : FnScope N ps (defScope st)) (hp : ps.length = np) (hn : N.length = np + n)
    (hbody : ∀ (cdv : Value) (A : Around) (outer : List Env) (s : Shared) (H : Hp) (E : XK), Room k (A.deeper (envOfC qual (defScope st) s.heap.objs.size f cdv)) →
      Rz (cxOf (CX1 P w) P w K mg base N qual (defScope st) f cdv A outer s H E) E → Bv (cxOf (CX1 P w) P w K mg base N qual (defScope st) f cdv A outer s H E) cls E (defBody st) b) :
    FnOk P w K mg base (CX1 P w) (k + 1) f fd ps (spM K cls (fnM np n b)) := by
  have len : ∀ vs H Q E, spM K cls (fnM np n b) vs H Q E → vs.length = np := fun vs H Q E ⟨A, ds, L, r, z, q⟩ => by
    unfold fnM at q
    split at q
    · rename_i hl
      rw [← r.length]
      exact hl
    · exact (show False from q).elim
  refine F.okX S (fun vs H Q E h => by rw [hp]; exact len vs H Q E h) fun cdv A outer s H vs Q E hr h R => ?_
  have hv := len vs H Q E h
  refine ⟨_, hbody cdv A outer s H E hr R, ?_⟩
  obtain ⟨B, ds, L, r, z, q⟩ := h
  refine ⟨H, B, ds.map Bd.val ++ List.replicate n .no, ⟨[], .refl _, L, (fun a z => nomatch z), ?_⟩, ?_⟩
  · have e : start N vs = vs.map some ++ List.replicate n none := by
      unfold start
      rw [hn, hv, Nat.add_sub_cancel_left]
    rw [e]
    exact fn_start L r z n
  · unfold fnM at q
    split at q
    · cases hm : b (ds.map Bd.val ++ List.replicate n .no) with
      | ok fl =>
        rw [hm] at q
        cases fl with
        | nx ρ => exact fun σ H' ⟨os, s', _, _, _⟩ => q .non H' s' rep_non trivial
        | rt d => exact fun v H' s' r' z' => q v H' s' r' z'
        | bk ρ => exact (show False from q).elim
        | ct ρ => exact (show False from q).elim
      | ex c => rw [hm] at q; exact q
      | bad => rw [hm] at q; exact q
    · exact (show False from q).elim
/-- the law itself -/
theorem law_ok {f : Addr} {fd : FuncData} {k : Nat} {x : Str} {G : List Dt → M Dt} (h : FnOk P w K mg base (CX1 P w) k f fd [x] (spM K cls G)) (hG : ∀ ns : List Int, ns.length ≤ 63 → G [.lst (ns.map Dt.int)] = .ok (.bl true)) : FnOk P w K mg base (CX1 P w) k f fd [x] (spLaw K) := by
  refine h.imp ?_ 
  intro vs H Q E ⟨a, ns, e, hS, q⟩
  subst e
  refine ⟨[], [.lst (ns.map Dt.int)], (fun a z => nomatch z), .cons (rep_script ?_) .nil, ⟨⟨by simpa using (show ns.length ≤ 10000 by have := hS.2; omega), sms_of fun d hd => ?_⟩, trivial⟩, ?_⟩
  · have e : hid H [] = H := by funext b; unfold hid; simp
    rw [e]
    exact hS.1
  · obtain ⟨n, _, rfl⟩ := List.mem_map.mp hd
    trivial
  · rw [hG ns hS.2]
    intro v H' _ r _
    simp only [Rep] at r
    rw [r]
    exact q H'
end
/-- where no refusal is wanted none passes -/
theorem pass_no {P : Program} {w : World} {X : Cx} : Passes (CX1 P w) X E0 := fun pins σ H s e s' I hc => by
  obtain ⟨ea, C, H', B, a0, _, _, _, _, _, _, _, _, _, hE⟩ := hc
  exact hE.elim
end L2

set_option Elab.async false
set_option linter.all false
set_option maxRecDepth 100000
set_option maxHeartbeats 4000000
namespace L2
open PySem PySem.Spec PyProof.Rows PySem.W
section
variable {X : Cx} {cls : Nat → Addr} {E : XK} {a b c : Expr} {f g h : Rho → M Dt} {pos : Pos} {st : Stmt} {rest : List Stmt} {s t : SM} {fs : Rho → M (List Dt)} {es : List Expr}
/-! ### lists of one's own -/
theorem Sto.grow {K : PySem.W.Frag} {Hin : Hp} {A₀ os : List Addr} {ρ : Rho} {σ : St} {H : Hp} {i : Nat} {ds ns : List Dt} {p : Addr} {ys : List V} (S : Sto K Hin A₀ os ρ σ H) (hi : ρ[i]? = some (.own ds)) (hp : σ[i]? = some (some (.ref p)))
    (r : Reps K (hid H (os ++ A₀)) ns ys) (z : sms ns) (zl : ns.length ≤ 10000) : Sto K Hin A₀ os (ρ.set i (.own ns)) σ (upd H p (.lst ys)) := by
  obtain ⟨s0, L0, fr, F⟩ := S
  obtain ⟨p', xs, h1, h2, h3, h4, h5, h6⟩ := F.own i ds hi
  rw [hp] at h1
  cases h1
  have hin : p ∈ os ++ A₀ := List.mem_append_left _ h2
  have hlt : i < ρ.length := (List.getElem?_eq_some_iff.mp hi).1
  refine ⟨fun b o e => ?_, L0, fr, ?_⟩
  · rw [upd_ne fun z => by subst z; rw [fr b h2] at e; cases e]
    exact s0 b o e
  · refine ⟨by simp [F.len], fun a ha => ?_, F.sub, fun j e he => ?_, fun j es' he => ?_, fun j k ds' es' b hjk e1 e2 e3 => ?_⟩
    · by_cases hz : a = p
      · rw [hz, upd_same]; simp
      · rw [upd_ne hz]; exact F.liv a ha
    · rw [hid_upd_in hin]
      by_cases hj : j = i
      · subst hj
        rw [List.getElem?_set_self hlt] at he
        cases he
      · rw [List.getElem?_set_ne (Ne.symm hj)] at he
        exact F.val j e he
    · rw [hid_upd_in hin]
      by_cases hj : j = i
      · subst hj
        rw [List.getElem?_set_self hlt] at he
        cases he
        exact ⟨p, ys, hp, h2, upd_same, r, z, zl⟩
      · rw [List.getElem?_set_ne (Ne.symm hj)] at he
        obtain ⟨b, zs, e1, e2, e3, e4, e5⟩ := F.own j es' he
        refine ⟨b, zs, e1, e2, ?_, e4, e5⟩
        rw [upd_ne fun z => by subst z; exact F.apart i j ds es' b (Ne.symm hj) hi he hp e1]
        exact e3
    · have same : ∀ (m : Nat) gs, (ρ.set i (.own ns))[m]? = some (.own gs) → ∃ gs', ρ[m]? = some (.own gs') := fun m gs e => by
        by_cases hm : m = i
        · subst hm; exact ⟨ds, hi⟩
        · rw [List.getElem?_set_ne (Ne.symm hm)] at e; exact ⟨gs, e⟩
      obtain ⟨g1, k1⟩ := same _ _ e1
      obtain ⟨g2, k2⟩ := same _ _ e2
      exact F.apart j k g1 g2 b hjk k1 k2 e3
theorem Sto.mono {K : PySem.W.Frag} {Hin : Hp} {A₀ os : List Addr} {ρ : Rho} {σ : St} {H H' : Hp} (S : Sto K Hin A₀ os ρ σ H) (s : Same H H') : Sto K Hin A₀ os ρ σ H' := ⟨S.1.trans s, S.2.1, S.2.2.1, S.2.2.2.mono s⟩
/-! ### zip of lists, enumerate -/
end
end L2

set_option Elab.async false
set_option linter.all false
set_option maxRecDepth 100000
set_option maxHeartbeats 4000000
namespace L2
open PySem PySem.Spec PyProof.Rows PySem.W
section
variable {X : Cx} {cls : Nat → Addr} {E : XK} {a b c : Expr} {f g h : Rho → M Dt} {pos : Pos} {st : Stmt} {rest : List Stmt} {s t : SM} {fs : Rho → M (List Dt)} {es : List Expr}
end


end L2

set_option Elab.async false
set_option linter.all false
set_option maxRecDepth 100000
set_option maxHeartbeats 4000000
namespace L2
open PySem PySem.Spec PyProof.Rows PySem.W
section
variable {X : Cx} {cls : Nat → Addr} {E : XK} {a b c : Expr} {f g h : Rho → M Dt} {pos : Pos} {fs : Rho → M (List Dt)} {es : List Expr}
/-- ''.join(e) -/
theorem ev_join {x : Str} {j p apos} (ha : Av X cls E [a] fs) (hst : isStar a = false) (hx : x = ⟨([] : List Nat).toArray⟩ := by decide +kernel) (hline : (apos.endLine == pos.line) = true := by rfl) : Ev X cls E (.Call (.Attribute (.Constant (.str x) j p) "join" apos) [a] [] pos) (pMeth mJoin (pC (.str [])) fs) := by
  have hs : starEach [a] X.env = (false, eval a X.env) :: starEach [] X.env := starEach_cons hst
  exact ev_bm PySem.F.plainAttrs_str PySem.F.slot_str_join PySem.F.type_str_join md_join (ev_S (l := []) hx) ha rfl (by rw [hs]; rfl) hline hs rfl
theorem ev_count {o : Expr} {apos} (ho : Ev X cls E o f) (ha : Av X cls E [a] fs) (hst : isStar a = false) (hbase : attributeBase o "count" X.env (eval o X.env) = eval o X.env := by rfl) (hline : (apos.endLine == pos.line) = true := by rfl) : Ev X cls E (.Call (.Attribute o "count" apos) [a] [] pos) (pMeth mCountS f fs) := by
  have hs : starEach [a] X.env = (false, eval a X.env) :: starEach [] X.env := starEach_cons hst
  exact ev_bm PySem.F.plainAttrs_str PySem.F.slot_str_count PySem.F.type_str_count md_countS ho ha hbase (by rw [hs]; rfl) hline hs rfl
end
end L2

set_option Elab.async false
set_option linter.all false
set_option maxRecDepth 100000
set_option maxHeartbeats 4000000
namespace L2
open PySem PySem.Spec PyProof.Rows PySem.W
theorem no_int : typeLookup (.type "str") "__int__" = pure none := by rw [typeLookup_type, builtinLookup_eq_fast]; kernel_rfl
theorem noIndex : typeLookup (.type "str") "__index__" = pure none := by rw [typeLookup_type, builtinLookup_eq_fast]; kernel_rfl
theorem no_trunc : typeLookup (.type "str") "__trunc__" = pure none := by rw [typeLookup_type, builtinLookup_eq_fast]; kernel_rfl
theorem meets_int_new_0 (t : Tok) : Meets (Builtin.«int.__new__» ⟨[.type "int", .str ⟨#[48]⟩ t], []⟩) (Made.int 0).spec :=
  Meets.of_wp fun prog w A R s hs => by
    obtain ⟨hp, g, d, tk, os⟩ := s
    have f1 := F.conv_sub_int
    have f2 := F.madeHere_int
    have f3 := no_int
    have f4 := noIndex
    have f5 := no_trunc
    repeat (any_goals (first | assumption | wp_step))
    refine Eq.mpr (congrArg (fun m => wpAny (model prog w) A.in1 m _ _ _) (show _ = mkInt 0 from ?e)) ?_
    case e => kernel_rfl
    repeat (any_goals (first | assumption | wp_step))
    all_goals exact ⟨_, rfl, hs⟩
theorem meets_int_new_1 (t : Tok) : Meets (Builtin.«int.__new__» ⟨[.type "int", .str ⟨#[49]⟩ t], []⟩) (Made.int 1).spec :=
  Meets.of_wp fun prog w A R s hs => by
    obtain ⟨hp, g, d, tk, os⟩ := s
    have f1 := F.conv_sub_int
    have f2 := F.madeHere_int
    have f3 := no_int
    have f4 := noIndex
    have f5 := no_trunc
    repeat (any_goals (first | assumption | wp_step))
    refine Eq.mpr (congrArg (fun m => wpAny (model prog w) A.in1 m _ _ _) (show _ = mkInt 1 from ?e)) ?_
    case e => kernel_rfl
    repeat (any_goals (first | assumption | wp_step))
    all_goals exact ⟨_, rfl, hs⟩
section
variable {X : Cx} {cls : Nat → Addr} {E : XK}
theorem call_int0 : CallR X (.type "int") (fun xs H Q => xs = [S [48]] ∧ Q (.int 0) H) := by
  intro pins s σ H xs us Q I r ⟨e, q⟩
  subst e
  obtain ⟨u, rfl, t, rfl⟩ := r.one
  exact call_int_1 (meets_int_new_0 t) (show (Made.int 0).post _ s from ⟨rfl, .int 0, H, I.tok _, ⟨_, rfl⟩, q⟩)
theorem call_int1' : CallR X (.type "int") (fun xs H Q => xs = [S [49]] ∧ Q (.int 1) H) := by
  intro pins s σ H xs us Q I r ⟨e, q⟩
  subst e
  obtain ⟨u, rfl, t, rfl⟩ := r.one
  exact call_int_1 (meets_int_new_1 t) (show (Made.int 1).post _ s from ⟨rfl, .int 1, H, I.tok _, ⟨_, rfl⟩, q⟩)
theorem cd_int : CaD X cls E (.type "int") bIntD := by
  refine ⟨_, call_int1.or (call_int0.or call_int1'), fun A H Q ds vs L r z q => ?_⟩
  unfold bIntD at q
  split at q
  · rename_i i
    obtain ⟨v, rfl, rv⟩ := reps1 r
    exact .inl (.inl ⟨i, by rw [repI rv], q _ H (.refl _) rep_int trivial⟩)
  · rename_i b
    obtain ⟨v, rfl, rv⟩ := reps1 r
    exact .inl (.inr ⟨b, by rw [repB rv], q _ H (.refl _) rep_int trivial⟩)
  · obtain ⟨v, rfl, rv⟩ := reps1 r
    exact .inr (.inl ⟨by rw [repS rv], q _ H (.refl _) rep_int trivial⟩)
  · obtain ⟨v, rfl, rv⟩ := reps1 r
    exact .inr (.inr ⟨by rw [repS rv], q _ H (.refl _) rep_int trivial⟩)
  · exact (show False from q).elim
end
end L2

set_option Elab.async false
set_option linter.all false
set_option maxRecDepth 100000
set_option maxHeartbeats 4000000
namespace L2
open PySem PySem.Spec PyProof.Rows PySem.W
abbrev IsTA (h : Heap) (T : Addr) (xs : Array Value) : Prop := h.get? T = some { cls := .type "tuple", data := .seq xs }
theorem updSeq {prog : Program} {w : World} {A : Around} {E : Value → Shared → Prop} {s : Shared} {T : Addr} {xs : Array Value} {x : Value} {k : Nat} {Q : Unit → Shared → Prop} (hT : IsTA s.heap T xs)
    (h : ∀ h', IsTA h' T (xs.setIfInBounds k x) → Heap.SameBut T s.heap h' → Q () { s with heap := h' }) (hx : xs.size ≤ 100 := by simp) :
    wpAny (model prog w) A (updateSeq T (·.setIfInBounds k x)) Q E s := by
  refine wpAny_updateSeq hT rfl (h _ ?_ (Heap.SameBut.update ..)) (hz := Nat.le_trans hx (by decide)) (_hz' := by rw [Array.size_setIfInBounds]; exact Nat.le_trans hx (by decide))
  show Heap.get? _ _ = _
  rw [Heap.get?_update_self _ hT rfl]
  simp [Obj.mapSeq]
structure ZA2 (z TI TO i1 i2 : Addr) (f1 : List Addr) (f2 : List Addr) : Prop where
  TIz : TI ≠ z
  TOz : TO ≠ z
  TITO : TI ≠ TO
  z1 : i1 ≠ z
  TI1 : TI ≠ i1
  TO1 : TO ≠ i1
  fz1 : z ∉ f1
  fT1 : TO ∉ f1
  i12 : i1 ≠ i2
  f12 : i2 ∉ f1
  z2 : i2 ≠ z
  TI2 : TI ≠ i2
  TO2 : TO ≠ i2
  fz2 : z ∉ f2
  fT2 : TO ∉ f2
  i21 : i2 ≠ i1
  f21 : i1 ∉ f2
section
variable {prog : Program} {w : World} {A : Around} {E : Value → Shared → Prop} {s : Shared} {z TI TO i1 i2 : Addr} {f1 : List Addr} {n1 : Nat} {P1 : Nat → Value → Prop} {S1 : Nat → Heap → Prop} {f2 : List Addr} {n2 : Nat} {P2 : Nat → Value → Prop} {S2 : Nat → Heap → Prop}
theorem zn_item2 (L : ZA2 z TI TO i1 i2 f1 f2) (D1 : Draws prog w A i1 f1 n1 P1 S1) (D2 : Draws prog w A i2 f2 n2 P2 S2) {m : Nat} {a1 a2 : Value} (hz : IsZip s.heap z TI TO .none) (hTI : IsTA s.heap TI #[.ref i1, .ref i2]) (hTO : IsTA s.heap TO #[a1, a2]) (st1 : S1 m s.heap) (st2 : S2 m s.heap) (h1 : m < n1) (h2 : m < n2) {Q : Value → Shared → Prop}
    (hQ : ∀ x1 x2 h' tk, P1 m x1 → P2 m x2 → IsZip h' z TI TO (rawInt s.heap.objs.size) → IsTA h' TO #[x1, x2] → S1 (m + 1) h' → S2 (m + 1) h' → IsTA h' s.heap.objs.size #[x1, x2] → (∀ c o, c ≠ z → c ≠ TO → c ≠ i1 → c ≠ i2 → s.heap.get? c = some o → h'.get? c = some o) → Q (.ref s.heap.objs.size) { s with heap := h', toks := tk }) :
    wpAny (model prog w) A (Builtin.«zip.__next__» ⟨[.ref z], []⟩) (fun fin s' => ∃ v, fin = .done (.ret v) ∧ Q v s') E s := by
  show wpAny _ _ (field (.ref z) 2 >>= _) _ _ _
  refine wpAny_bind (wpAny_field hz rfl (x := .bool false) rfl ?_)
  show wpAny _ _ (field (.ref z) 3 >>= _) _ _ _
  refine wpAny_bind (wpAny_field hz rfl (x := .ref TI) rfl ?_)
  refine wpAny_bind (wpAny_seqItems hTI rfl ?_)
  show wpAny _ _ (Builtin.SmallTypes.ownedTupleIsFree (.ref z) >>= _) _ _ _
  refine wpAny_bind ?_
  unfold Builtin.SmallTypes.ownedTupleIsFree
  refine wpAny_bind (wpAny_field hz rfl (x := .none) rfl (wpAny_pure ?_))
  simp only [if_true]
  refine wpAny_bind (wpAny_rule ?_)
  refine wpAny_bind (wpAny_field hz rfl (x := .ref TO) rfl ?_)
  refine wpAny_bind (wpAny_setField_rec hz (by simp) fun g0 hz0 hs0 => ?_)
  replace hz0 : IsZip g0 z TI TO .ellipsis := hz0
  refine wpAny_bind ?_
  simp only [List.zipIdx_cons, List.zipIdx_nil, List.forIn_cons, List.forIn_nil]
  have tO0 : IsTA g0 TO #[a1, a2] := hs0.extBut _ _ L.TOz hTO
  have s0_1 := D1.frame _ _ _ st1 fun b hb o e => hs0.extBut b o (fun q => L.fz1 (q ▸ hb)) e
  have s0_2 := D2.frame _ _ _ st2 fun b hb o e => hs0.extBut b o (fun q => L.fz2 (q ▸ hb)) e
  refine wpAny_bind (wpAny_bind (wpAny_onRaise ?_))
  show wpAny _ _ (Builtin.SmallTypes.nextOf (.ref i1) >>= _) _ _ _
  refine wpAny_bind (D1.item m _ _ _ h1 s0_1 fun x1 g1a tk1 px1 s1a_1 hs1a => wpAny_pure ?_)
  have tO1a : IsTA g1a TO #[a1, a2] := hs1a.extBut _ _ L.TO1 tO0
  refine wpAny_bind (wpAny_seqItems tO1a rfl ?_)
  refine wpAny_bind (updSeq tO1a fun g1 tO1 hs1 => ?_)
  replace tO1 : IsTA g1 TO #[x1, a2] := tO1
  refine wpAny_bind (wpAny_letGo (wpAny_pure ?_))
  have s1_1 := D1.frame _ _ _ s1a_1 fun b hb o e => hs1.extBut b o (fun q => L.fT1 (q ▸ hb)) e
  have s1_2 := D2.frame _ _ _ (D2.frame _ _ _ s0_2 fun b hb o e => hs1a.extBut b o (fun q => L.f21 (q ▸ hb)) e) fun b hb o e => hs1.extBut b o (fun q => L.fT2 (q ▸ hb)) e
  have hz1 : IsZip g1 z TI TO .ellipsis := hs1.extBut _ _ L.TOz.symm (hs1a.extBut _ _ L.z1.symm hz0)
  refine wpAny_bind (wpAny_bind (wpAny_onRaise ?_))
  show wpAny _ _ (Builtin.SmallTypes.nextOf (.ref i2) >>= _) _ _ _
  refine wpAny_bind (D2.item m _ _ _ h2 s1_2 fun x2 g2a tk2 px2 s2a_2 hs2a => wpAny_pure ?_)
  have tO2a : IsTA g2a TO #[x1, a2] := hs2a.extBut _ _ L.TO2 tO1
  refine wpAny_bind (wpAny_seqItems tO2a rfl ?_)
  refine wpAny_bind (updSeq tO2a fun g2 tO2 hs2 => ?_)
  replace tO2 : IsTA g2 TO #[x1, x2] := tO2
  refine wpAny_bind (wpAny_letGo (wpAny_pure (wpAny_pure ?_)))
  have s2_1 := D1.frame _ _ _ (D1.frame _ _ _ s1_1 fun b hb o e => hs2a.extBut b o (fun q => L.f12 (q ▸ hb)) e) fun b hb o e => hs2.extBut b o (fun q => L.fT1 (q ▸ hb)) e
  have s2_2 := D2.frame _ _ _ s2a_2 fun b hb o e => hs2.extBut b o (fun q => L.fT2 (q ▸ hb)) e
  have hz2 : IsZip g2 z TI TO .ellipsis := hs2.extBut _ _ L.TOz.symm (hs2a.extBut _ _ L.z2.symm hz1)
  refine wpAny_bind (wpAny_seqItems tO2 rfl ?_)
  refine wpAny_bind (wpAny_newTuple ?_)
  have hsz : g2.objs.size = s.heap.objs.size := by rw [hs2.1, hs2a.1, hs1.1, hs1a.1, hs0.1]
  have hk2 : ∀ c o, c ≠ z → c ≠ TO → c ≠ i1 → c ≠ i2 → s.heap.get? c = some o → g2.get? c = some o := fun c o c1 c2 d1 d2 e => hs2.extBut _ _ c2 (hs2a.extBut _ _ d2 (hs1.extBut _ _ c2 (hs1a.extBut _ _ d1 (hs0.extBut _ _ c1 e))))
  have hzlt : z < g2.objs.size := Heap.lt_size hz2
  show wpAny _ _ (Builtin.SmallTypes.ownedTupleHandOut (.ref z) (.ref g2.objs.size) >>= _) _ _ _
  refine wpAny_bind ?_
  unfold Builtin.SmallTypes.ownedTupleHandOut
  have hz6 : IsZip (g2.push { cls := .type "tuple", data := .seq #[x1, x2] }) z TI TO .ellipsis := Heap.get?_push_of_some _ hz2
  refine wpAny_bind (wpAny_setField_rec hz6 (by simp) fun h7 hz7 hs7 => ?_)
  replace hz7 : IsZip h7 z TI TO (rawInt g2.objs.size) := hz7
  refine wpAny_setField_rec hz7 (by simp) fun h8 hz8 hs8 => ?_
  replace hz8 : IsZip h8 z TI TO (rawInt g2.objs.size) := hz8
  have up : ∀ c o, c ≠ z → g2.get? c = some o → h8.get? c = some o := fun c o c1 e => hs8.extBut _ _ c1 (hs7.extBut _ _ c1 (Heap.get?_push_of_some _ e))
  have hT8 : IsTA h8 g2.objs.size #[x1, x2] := hs8.extBut _ _ (Nat.ne_of_gt hzlt) (hs7.extBut _ _ (Nat.ne_of_gt hzlt) (Heap.get?_push_size _ rfl))
  rw [hsz] at hz8 hT8
  refine wpAny_pure ⟨_, rfl, ?_⟩
  show Q (.ref g2.objs.size) _
  rw [hsz]
  exact hQ x1 x2 h8 _ px1 px2 hz8 (up _ _ L.TOz tO2) (D1.frame _ _ _ s2_1 fun b hb o e => up b o (fun q => L.fz1 (q ▸ hb)) e) (D2.frame _ _ _ s2_2 fun b hb o e => up b o (fun q => L.fz2 (q ▸ hb)) e) hT8 fun c o c1 c2 d1 d2 e => up c o c1 (hk2 c o c1 c2 d1 d2 e)
end
structure ZA3 (z TI TO i1 i2 i3 : Addr) (f1 : List Addr) (f2 : List Addr) (f3 : List Addr) : Prop where
  TIz : TI ≠ z
  TOz : TO ≠ z
  TITO : TI ≠ TO
  z1 : i1 ≠ z
  TI1 : TI ≠ i1
  TO1 : TO ≠ i1
  fz1 : z ∉ f1
  fT1 : TO ∉ f1
  i12 : i1 ≠ i2
  f12 : i2 ∉ f1
  i13 : i1 ≠ i3
  f13 : i3 ∉ f1
  z2 : i2 ≠ z
  TI2 : TI ≠ i2
  TO2 : TO ≠ i2
  fz2 : z ∉ f2
  fT2 : TO ∉ f2
  i21 : i2 ≠ i1
  f21 : i1 ∉ f2
  i23 : i2 ≠ i3
  f23 : i3 ∉ f2
  z3 : i3 ≠ z
  TI3 : TI ≠ i3
  TO3 : TO ≠ i3
  fz3 : z ∉ f3
  fT3 : TO ∉ f3
  i31 : i3 ≠ i1
  f31 : i1 ∉ f3
  i32 : i3 ≠ i2
  f32 : i2 ∉ f3
section
variable {prog : Program} {w : World} {A : Around} {E : Value → Shared → Prop} {s : Shared} {z TI TO i1 i2 i3 : Addr} {f1 : List Addr} {n1 : Nat} {P1 : Nat → Value → Prop} {S1 : Nat → Heap → Prop} {f2 : List Addr} {n2 : Nat} {P2 : Nat → Value → Prop} {S2 : Nat → Heap → Prop} {f3 : List Addr} {n3 : Nat} {P3 : Nat → Value → Prop} {S3 : Nat → Heap → Prop}
theorem zn_item3 (L : ZA3 z TI TO i1 i2 i3 f1 f2 f3) (D1 : Draws prog w A i1 f1 n1 P1 S1) (D2 : Draws prog w A i2 f2 n2 P2 S2) (D3 : Draws prog w A i3 f3 n3 P3 S3) {m : Nat} {a1 a2 a3 : Value} (hz : IsZip s.heap z TI TO .none) (hTI : IsTA s.heap TI #[.ref i1, .ref i2, .ref i3]) (hTO : IsTA s.heap TO #[a1, a2, a3]) (st1 : S1 m s.heap) (st2 : S2 m s.heap) (st3 : S3 m s.heap) (h1 : m < n1) (h2 : m < n2) (h3 : m < n3) {Q : Value → Shared → Prop}
    (hQ : ∀ x1 x2 x3 h' tk, P1 m x1 → P2 m x2 → P3 m x3 → IsZip h' z TI TO (rawInt s.heap.objs.size) → IsTA h' TO #[x1, x2, x3] → S1 (m + 1) h' → S2 (m + 1) h' → S3 (m + 1) h' → IsTA h' s.heap.objs.size #[x1, x2, x3] → (∀ c o, c ≠ z → c ≠ TO → c ≠ i1 → c ≠ i2 → c ≠ i3 → s.heap.get? c = some o → h'.get? c = some o) → Q (.ref s.heap.objs.size) { s with heap := h', toks := tk }) :
    wpAny (model prog w) A (Builtin.«zip.__next__» ⟨[.ref z], []⟩) (fun fin s' => ∃ v, fin = .done (.ret v) ∧ Q v s') E s := by
  show wpAny _ _ (field (.ref z) 2 >>= _) _ _ _
  refine wpAny_bind (wpAny_field hz rfl (x := .bool false) rfl ?_)
  show wpAny _ _ (field (.ref z) 3 >>= _) _ _ _
  refine wpAny_bind (wpAny_field hz rfl (x := .ref TI) rfl ?_)
  refine wpAny_bind (wpAny_seqItems hTI rfl ?_)
  show wpAny _ _ (Builtin.SmallTypes.ownedTupleIsFree (.ref z) >>= _) _ _ _
  refine wpAny_bind ?_
  unfold Builtin.SmallTypes.ownedTupleIsFree
  refine wpAny_bind (wpAny_field hz rfl (x := .none) rfl (wpAny_pure ?_))
  simp only [if_true]
  refine wpAny_bind (wpAny_rule ?_)
  refine wpAny_bind (wpAny_field hz rfl (x := .ref TO) rfl ?_)
  refine wpAny_bind (wpAny_setField_rec hz (by simp) fun g0 hz0 hs0 => ?_)
  replace hz0 : IsZip g0 z TI TO .ellipsis := hz0
  refine wpAny_bind ?_
  simp only [List.zipIdx_cons, List.zipIdx_nil, List.forIn_cons, List.forIn_nil]
  have tO0 : IsTA g0 TO #[a1, a2, a3] := hs0.extBut _ _ L.TOz hTO
  have s0_1 := D1.frame _ _ _ st1 fun b hb o e => hs0.extBut b o (fun q => L.fz1 (q ▸ hb)) e
  have s0_2 := D2.frame _ _ _ st2 fun b hb o e => hs0.extBut b o (fun q => L.fz2 (q ▸ hb)) e
  have s0_3 := D3.frame _ _ _ st3 fun b hb o e => hs0.extBut b o (fun q => L.fz3 (q ▸ hb)) e
  refine wpAny_bind (wpAny_bind (wpAny_onRaise ?_))
  show wpAny _ _ (Builtin.SmallTypes.nextOf (.ref i1) >>= _) _ _ _
  refine wpAny_bind (D1.item m _ _ _ h1 s0_1 fun x1 g1a tk1 px1 s1a_1 hs1a => wpAny_pure ?_)
  have tO1a : IsTA g1a TO #[a1, a2, a3] := hs1a.extBut _ _ L.TO1 tO0
  refine wpAny_bind (wpAny_seqItems tO1a rfl ?_)
  refine wpAny_bind (updSeq tO1a fun g1 tO1 hs1 => ?_)
  replace tO1 : IsTA g1 TO #[x1, a2, a3] := tO1
  refine wpAny_bind (wpAny_letGo (wpAny_pure ?_))
  have s1_1 := D1.frame _ _ _ s1a_1 fun b hb o e => hs1.extBut b o (fun q => L.fT1 (q ▸ hb)) e
  have s1_2 := D2.frame _ _ _ (D2.frame _ _ _ s0_2 fun b hb o e => hs1a.extBut b o (fun q => L.f21 (q ▸ hb)) e) fun b hb o e => hs1.extBut b o (fun q => L.fT2 (q ▸ hb)) e
  have s1_3 := D3.frame _ _ _ (D3.frame _ _ _ s0_3 fun b hb o e => hs1a.extBut b o (fun q => L.f31 (q ▸ hb)) e) fun b hb o e => hs1.extBut b o (fun q => L.fT3 (q ▸ hb)) e
  have hz1 : IsZip g1 z TI TO .ellipsis := hs1.extBut _ _ L.TOz.symm (hs1a.extBut _ _ L.z1.symm hz0)
  refine wpAny_bind (wpAny_bind (wpAny_onRaise ?_))
  show wpAny _ _ (Builtin.SmallTypes.nextOf (.ref i2) >>= _) _ _ _
  refine wpAny_bind (D2.item m _ _ _ h2 s1_2 fun x2 g2a tk2 px2 s2a_2 hs2a => wpAny_pure ?_)
  have tO2a : IsTA g2a TO #[x1, a2, a3] := hs2a.extBut _ _ L.TO2 tO1
  refine wpAny_bind (wpAny_seqItems tO2a rfl ?_)
  refine wpAny_bind (updSeq tO2a fun g2 tO2 hs2 => ?_)
  replace tO2 : IsTA g2 TO #[x1, x2, a3] := tO2
  refine wpAny_bind (wpAny_letGo (wpAny_pure ?_))
  have s2_1 := D1.frame _ _ _ (D1.frame _ _ _ s1_1 fun b hb o e => hs2a.extBut b o (fun q => L.f12 (q ▸ hb)) e) fun b hb o e => hs2.extBut b o (fun q => L.fT1 (q ▸ hb)) e
  have s2_2 := D2.frame _ _ _ s2a_2 fun b hb o e => hs2.extBut b o (fun q => L.fT2 (q ▸ hb)) e
  have s2_3 := D3.frame _ _ _ (D3.frame _ _ _ s1_3 fun b hb o e => hs2a.extBut b o (fun q => L.f32 (q ▸ hb)) e) fun b hb o e => hs2.extBut b o (fun q => L.fT3 (q ▸ hb)) e
  have hz2 : IsZip g2 z TI TO .ellipsis := hs2.extBut _ _ L.TOz.symm (hs2a.extBut _ _ L.z2.symm hz1)
  refine wpAny_bind (wpAny_bind (wpAny_onRaise ?_))
  show wpAny _ _ (Builtin.SmallTypes.nextOf (.ref i3) >>= _) _ _ _
  refine wpAny_bind (D3.item m _ _ _ h3 s2_3 fun x3 g3a tk3 px3 s3a_3 hs3a => wpAny_pure ?_)
  have tO3a : IsTA g3a TO #[x1, x2, a3] := hs3a.extBut _ _ L.TO3 tO2
  refine wpAny_bind (wpAny_seqItems tO3a rfl ?_)
  refine wpAny_bind (updSeq tO3a fun g3 tO3 hs3 => ?_)
  replace tO3 : IsTA g3 TO #[x1, x2, x3] := tO3
  refine wpAny_bind (wpAny_letGo (wpAny_pure (wpAny_pure ?_)))
  have s3_1 := D1.frame _ _ _ (D1.frame _ _ _ s2_1 fun b hb o e => hs3a.extBut b o (fun q => L.f13 (q ▸ hb)) e) fun b hb o e => hs3.extBut b o (fun q => L.fT1 (q ▸ hb)) e
  have s3_2 := D2.frame _ _ _ (D2.frame _ _ _ s2_2 fun b hb o e => hs3a.extBut b o (fun q => L.f23 (q ▸ hb)) e) fun b hb o e => hs3.extBut b o (fun q => L.fT2 (q ▸ hb)) e
  have s3_3 := D3.frame _ _ _ s3a_3 fun b hb o e => hs3.extBut b o (fun q => L.fT3 (q ▸ hb)) e
  have hz3 : IsZip g3 z TI TO .ellipsis := hs3.extBut _ _ L.TOz.symm (hs3a.extBut _ _ L.z3.symm hz2)
  refine wpAny_bind (wpAny_seqItems tO3 rfl ?_)
  refine wpAny_bind (wpAny_newTuple ?_)
  have hsz : g3.objs.size = s.heap.objs.size := by rw [hs3.1, hs3a.1, hs2.1, hs2a.1, hs1.1, hs1a.1, hs0.1]
  have hk3 : ∀ c o, c ≠ z → c ≠ TO → c ≠ i1 → c ≠ i2 → c ≠ i3 → s.heap.get? c = some o → g3.get? c = some o := fun c o c1 c2 d1 d2 d3 e => hs3.extBut _ _ c2 (hs3a.extBut _ _ d3 (hs2.extBut _ _ c2 (hs2a.extBut _ _ d2 (hs1.extBut _ _ c2 (hs1a.extBut _ _ d1 (hs0.extBut _ _ c1 e))))))
  have hzlt : z < g3.objs.size := Heap.lt_size hz3
  show wpAny _ _ (Builtin.SmallTypes.ownedTupleHandOut (.ref z) (.ref g3.objs.size) >>= _) _ _ _
  refine wpAny_bind ?_
  unfold Builtin.SmallTypes.ownedTupleHandOut
  have hz6 : IsZip (g3.push { cls := .type "tuple", data := .seq #[x1, x2, x3] }) z TI TO .ellipsis := Heap.get?_push_of_some _ hz3
  refine wpAny_bind (wpAny_setField_rec hz6 (by simp) fun h7 hz7 hs7 => ?_)
  replace hz7 : IsZip h7 z TI TO (rawInt g3.objs.size) := hz7
  refine wpAny_setField_rec hz7 (by simp) fun h8 hz8 hs8 => ?_
  replace hz8 : IsZip h8 z TI TO (rawInt g3.objs.size) := hz8
  have up : ∀ c o, c ≠ z → g3.get? c = some o → h8.get? c = some o := fun c o c1 e => hs8.extBut _ _ c1 (hs7.extBut _ _ c1 (Heap.get?_push_of_some _ e))
  have hT8 : IsTA h8 g3.objs.size #[x1, x2, x3] := hs8.extBut _ _ (Nat.ne_of_gt hzlt) (hs7.extBut _ _ (Nat.ne_of_gt hzlt) (Heap.get?_push_size _ rfl))
  rw [hsz] at hz8 hT8
  refine wpAny_pure ⟨_, rfl, ?_⟩
  show Q (.ref g3.objs.size) _
  rw [hsz]
  exact hQ x1 x2 x3 h8 _ px1 px2 px3 hz8 (up _ _ L.TOz tO3) (D1.frame _ _ _ s3_1 fun b hb o e => up b o (fun q => L.fz1 (q ▸ hb)) e) (D2.frame _ _ _ s3_2 fun b hb o e => up b o (fun q => L.fz2 (q ▸ hb)) e) (D3.frame _ _ _ s3_3 fun b hb o e => up b o (fun q => L.fz3 (q ▸ hb)) e) hT8 fun c o c1 c2 d1 d2 d3 e => up c o c1 (hk3 c o c1 c2 d1 d2 d3 e)
end
section
variable {prog : Program} {w : World} {A : Around} {E : Value → Shared → Prop} {s : Shared} {z TI TO i1 i2 : Addr} {f1 : List Addr} {n1 : Nat} {P1 : Nat → Value → Prop} {S1 : Nat → Heap → Prop} {f2 : List Addr} {n2 : Nat} {P2 : Nat → Value → Prop} {S2 : Nat → Heap → Prop}
theorem zn_end2 (L : ZA2 z TI TO i1 i2 f1 f2) (D1 : Draws prog w A i1 f1 n1 P1 S1) (D2 : Draws prog w A i2 f2 n2 P2 S2) {a1 a2 : Value} (hz : IsZip s.heap z TI TO .none) (hTI : IsTA s.heap TI #[.ref i1, .ref i2]) (hTO : IsTA s.heap TO #[a1, a2]) (st1 : S1 (min (n1) n2) s.heap) (st2 : S2 (min (n1) n2) s.heap) {Q : Fin → Shared → Prop}
    (hE : ∀ h' e tk, (∀ c o, c ≠ z → c ≠ TO → c ≠ i1 → c ≠ i2 → s.heap.get? c = some o → h'.get? c = some o) → (∃ o, h'.get? e = some o ∧ o.cls = .type "StopIteration") → E (.ref e) { s with heap := h', toks := tk }) :
    wpAny (model prog w) A (Builtin.«zip.__next__» ⟨[.ref z], []⟩) Q E s := by
  generalize hm : min (n1) n2 = m at st1 st2
  show wpAny _ _ (field (.ref z) 2 >>= _) _ _ _
  refine wpAny_bind (wpAny_field hz rfl (x := .bool false) rfl ?_)
  show wpAny _ _ (field (.ref z) 3 >>= _) _ _ _
  refine wpAny_bind (wpAny_field hz rfl (x := .ref TI) rfl ?_)
  refine wpAny_bind (wpAny_seqItems hTI rfl ?_)
  show wpAny _ _ (Builtin.SmallTypes.ownedTupleIsFree (.ref z) >>= _) _ _ _
  refine wpAny_bind ?_
  unfold Builtin.SmallTypes.ownedTupleIsFree
  refine wpAny_bind (wpAny_field hz rfl (x := .none) rfl (wpAny_pure ?_))
  simp only [if_true]
  refine wpAny_bind (wpAny_rule ?_)
  refine wpAny_bind (wpAny_field hz rfl (x := .ref TO) rfl ?_)
  refine wpAny_bind (wpAny_setField_rec hz (by simp) fun g0 hz0 hs0 => ?_)
  replace hz0 : IsZip g0 z TI TO .ellipsis := hz0
  refine wpAny_bind ?_
  simp only [List.zipIdx_cons, List.zipIdx_nil, List.forIn_cons, List.forIn_nil]
  have tO0 : IsTA g0 TO #[a1, a2] := hs0.extBut _ _ L.TOz hTO
  have s0_1 := D1.frame _ _ _ st1 fun b hb o e => hs0.extBut b o (fun q => L.fz1 (q ▸ hb)) e
  have s0_2 := D2.frame _ _ _ st2 fun b hb o e => hs0.extBut b o (fun q => L.fz2 (q ▸ hb)) e
  have k0 : ∀ c o, c ≠ z → c ≠ TO → c ≠ i1 → c ≠ i2 → s.heap.get? c = some o → g0.get? c = some o := fun c o c1 c2 d1 d2 e => hs0.extBut _ _ c1 e
  refine wpAny_bind (wpAny_bind (wpAny_onRaise ?_))
  show wpAny _ _ (Builtin.SmallTypes.nextOf (.ref i1) >>= _) _ _ _
  by_cases q1 : n1 ≤ m
  · have e1 : n1 = m := by omega
    rw [← e1] at s0_1
    refine wpAny_bind (D1.done _ _ _ s0_1 fun g e he hS => ?_)
    obtain ⟨oe, hoe, hce⟩ := hS
    have hzg : IsZip g z TI TO .ellipsis := he _ _ L.z1.symm hz0
    have hez : e ≠ z := fun q => by subst q; rw [hzg] at hoe; cases hoe; simp at hce
    refine wpAny_setField_rec hzg (by simp) fun h3 _ hs3 => hE h3 e _ (fun c o c1 c2 d1 d2 x => hs3.extBut _ _ c1 (he _ _ d1 (k0 c o c1 c2 d1 d2 x))) ⟨oe, hs3.extBut _ _ hez hoe, hce⟩
  · refine wpAny_bind (D1.item m _ _ _ (by omega) s0_1 fun x1 g1a tk1 px1 s1a_1 hs1a => wpAny_pure ?_)
    have tO1a : IsTA g1a TO #[a1, a2] := hs1a.extBut _ _ L.TO1 tO0
    refine wpAny_bind (wpAny_seqItems tO1a rfl ?_)
    refine wpAny_bind (updSeq tO1a fun g1 tO1 hs1 => ?_)
    replace tO1 : IsTA g1 TO #[x1, a2] := tO1
    refine wpAny_bind (wpAny_letGo (wpAny_pure ?_))
    have s1_1 := D1.frame _ _ _ s1a_1 fun b hb o e => hs1.extBut b o (fun q => L.fT1 (q ▸ hb)) e
    have s1_2 := D2.frame _ _ _ (D2.frame _ _ _ s0_2 fun b hb o e => hs1a.extBut b o (fun q => L.f21 (q ▸ hb)) e) fun b hb o e => hs1.extBut b o (fun q => L.fT2 (q ▸ hb)) e
    have hz1 : IsZip g1 z TI TO .ellipsis := hs1.extBut _ _ L.TOz.symm (hs1a.extBut _ _ L.z1.symm hz0)
    have k1 : ∀ c o, c ≠ z → c ≠ TO → c ≠ i1 → c ≠ i2 → s.heap.get? c = some o → g1.get? c = some o := fun c o c1 c2 d1 d2 e => hs1.extBut _ _ c2 (hs1a.extBut _ _ d1 (k0 c o c1 c2 d1 d2 e))
    refine wpAny_bind (wpAny_bind (wpAny_onRaise ?_))
    show wpAny _ _ (Builtin.SmallTypes.nextOf (.ref i2) >>= _) _ _ _
    have e2 : n2 = m := by omega
    rw [← e2] at s1_2
    refine wpAny_bind (D2.done _ _ _ s1_2 fun g e he hS => ?_)
    obtain ⟨oe, hoe, hce⟩ := hS
    have hzg : IsZip g z TI TO .ellipsis := he _ _ L.z2.symm hz1
    have hez : e ≠ z := fun q => by subst q; rw [hzg] at hoe; cases hoe; simp at hce
    refine wpAny_setField_rec hzg (by simp) fun h3 _ hs3 => hE h3 e _ (fun c o c1 c2 d1 d2 x => hs3.extBut _ _ c1 (he _ _ d2 (k1 c o c1 c2 d1 d2 x))) ⟨oe, hs3.extBut _ _ hez hoe, hce⟩
end
section
variable {prog : Program} {w : World} {A : Around} {E : Value → Shared → Prop} {s : Shared} {z TI TO i1 i2 i3 : Addr} {f1 : List Addr} {n1 : Nat} {P1 : Nat → Value → Prop} {S1 : Nat → Heap → Prop} {f2 : List Addr} {n2 : Nat} {P2 : Nat → Value → Prop} {S2 : Nat → Heap → Prop} {f3 : List Addr} {n3 : Nat} {P3 : Nat → Value → Prop} {S3 : Nat → Heap → Prop}
theorem zn_end3 (L : ZA3 z TI TO i1 i2 i3 f1 f2 f3) (D1 : Draws prog w A i1 f1 n1 P1 S1) (D2 : Draws prog w A i2 f2 n2 P2 S2) (D3 : Draws prog w A i3 f3 n3 P3 S3) {a1 a2 a3 : Value} (hz : IsZip s.heap z TI TO .none) (hTI : IsTA s.heap TI #[.ref i1, .ref i2, .ref i3]) (hTO : IsTA s.heap TO #[a1, a2, a3]) (st1 : S1 (min (min (n1) n2) n3) s.heap) (st2 : S2 (min (min (n1) n2) n3) s.heap) (st3 : S3 (min (min (n1) n2) n3) s.heap) {Q : Fin → Shared → Prop}
    (hE : ∀ h' e tk, (∀ c o, c ≠ z → c ≠ TO → c ≠ i1 → c ≠ i2 → c ≠ i3 → s.heap.get? c = some o → h'.get? c = some o) → (∃ o, h'.get? e = some o ∧ o.cls = .type "StopIteration") → E (.ref e) { s with heap := h', toks := tk }) :
    wpAny (model prog w) A (Builtin.«zip.__next__» ⟨[.ref z], []⟩) Q E s := by
  generalize hm : min (min (n1) n2) n3 = m at st1 st2 st3
  show wpAny _ _ (field (.ref z) 2 >>= _) _ _ _
  refine wpAny_bind (wpAny_field hz rfl (x := .bool false) rfl ?_)
  show wpAny _ _ (field (.ref z) 3 >>= _) _ _ _
  refine wpAny_bind (wpAny_field hz rfl (x := .ref TI) rfl ?_)
  refine wpAny_bind (wpAny_seqItems hTI rfl ?_)
  show wpAny _ _ (Builtin.SmallTypes.ownedTupleIsFree (.ref z) >>= _) _ _ _
  refine wpAny_bind ?_
  unfold Builtin.SmallTypes.ownedTupleIsFree
  refine wpAny_bind (wpAny_field hz rfl (x := .none) rfl (wpAny_pure ?_))
  simp only [if_true]
  refine wpAny_bind (wpAny_rule ?_)
  refine wpAny_bind (wpAny_field hz rfl (x := .ref TO) rfl ?_)
  refine wpAny_bind (wpAny_setField_rec hz (by simp) fun g0 hz0 hs0 => ?_)
  replace hz0 : IsZip g0 z TI TO .ellipsis := hz0
  refine wpAny_bind ?_
  simp only [List.zipIdx_cons, List.zipIdx_nil, List.forIn_cons, List.forIn_nil]
  have tO0 : IsTA g0 TO #[a1, a2, a3] := hs0.extBut _ _ L.TOz hTO
  have s0_1 := D1.frame _ _ _ st1 fun b hb o e => hs0.extBut b o (fun q => L.fz1 (q ▸ hb)) e
  have s0_2 := D2.frame _ _ _ st2 fun b hb o e => hs0.extBut b o (fun q => L.fz2 (q ▸ hb)) e
  have s0_3 := D3.frame _ _ _ st3 fun b hb o e => hs0.extBut b o (fun q => L.fz3 (q ▸ hb)) e
  have k0 : ∀ c o, c ≠ z → c ≠ TO → c ≠ i1 → c ≠ i2 → c ≠ i3 → s.heap.get? c = some o → g0.get? c = some o := fun c o c1 c2 d1 d2 d3 e => hs0.extBut _ _ c1 e
  refine wpAny_bind (wpAny_bind (wpAny_onRaise ?_))
  show wpAny _ _ (Builtin.SmallTypes.nextOf (.ref i1) >>= _) _ _ _
  by_cases q1 : n1 ≤ m
  · have e1 : n1 = m := by omega
    rw [← e1] at s0_1
    refine wpAny_bind (D1.done _ _ _ s0_1 fun g e he hS => ?_)
    obtain ⟨oe, hoe, hce⟩ := hS
    have hzg : IsZip g z TI TO .ellipsis := he _ _ L.z1.symm hz0
    have hez : e ≠ z := fun q => by subst q; rw [hzg] at hoe; cases hoe; simp at hce
    refine wpAny_setField_rec hzg (by simp) fun h3 _ hs3 => hE h3 e _ (fun c o c1 c2 d1 d2 d3 x => hs3.extBut _ _ c1 (he _ _ d1 (k0 c o c1 c2 d1 d2 d3 x))) ⟨oe, hs3.extBut _ _ hez hoe, hce⟩
  · refine wpAny_bind (D1.item m _ _ _ (by omega) s0_1 fun x1 g1a tk1 px1 s1a_1 hs1a => wpAny_pure ?_)
    have tO1a : IsTA g1a TO #[a1, a2, a3] := hs1a.extBut _ _ L.TO1 tO0
    refine wpAny_bind (wpAny_seqItems tO1a rfl ?_)
    refine wpAny_bind (updSeq tO1a fun g1 tO1 hs1 => ?_)
    replace tO1 : IsTA g1 TO #[x1, a2, a3] := tO1
    refine wpAny_bind (wpAny_letGo (wpAny_pure ?_))
    have s1_1 := D1.frame _ _ _ s1a_1 fun b hb o e => hs1.extBut b o (fun q => L.fT1 (q ▸ hb)) e
    have s1_2 := D2.frame _ _ _ (D2.frame _ _ _ s0_2 fun b hb o e => hs1a.extBut b o (fun q => L.f21 (q ▸ hb)) e) fun b hb o e => hs1.extBut b o (fun q => L.fT2 (q ▸ hb)) e
    have s1_3 := D3.frame _ _ _ (D3.frame _ _ _ s0_3 fun b hb o e => hs1a.extBut b o (fun q => L.f31 (q ▸ hb)) e) fun b hb o e => hs1.extBut b o (fun q => L.fT3 (q ▸ hb)) e
    have hz1 : IsZip g1 z TI TO .ellipsis := hs1.extBut _ _ L.TOz.symm (hs1a.extBut _ _ L.z1.symm hz0)
    have k1 : ∀ c o, c ≠ z → c ≠ TO → c ≠ i1 → c ≠ i2 → c ≠ i3 → s.heap.get? c = some o → g1.get? c = some o := fun c o c1 c2 d1 d2 d3 e => hs1.extBut _ _ c2 (hs1a.extBut _ _ d1 (k0 c o c1 c2 d1 d2 d3 e))
    refine wpAny_bind (wpAny_bind (wpAny_onRaise ?_))
    show wpAny _ _ (Builtin.SmallTypes.nextOf (.ref i2) >>= _) _ _ _
    by_cases q2 : n2 ≤ m
    · have e2 : n2 = m := by omega
      rw [← e2] at s1_2
      refine wpAny_bind (D2.done _ _ _ s1_2 fun g e he hS => ?_)
      obtain ⟨oe, hoe, hce⟩ := hS
      have hzg : IsZip g z TI TO .ellipsis := he _ _ L.z2.symm hz1
      have hez : e ≠ z := fun q => by subst q; rw [hzg] at hoe; cases hoe; simp at hce
      refine wpAny_setField_rec hzg (by simp) fun h3 _ hs3 => hE h3 e _ (fun c o c1 c2 d1 d2 d3 x => hs3.extBut _ _ c1 (he _ _ d2 (k1 c o c1 c2 d1 d2 d3 x))) ⟨oe, hs3.extBut _ _ hez hoe, hce⟩
    · refine wpAny_bind (D2.item m _ _ _ (by omega) s1_2 fun x2 g2a tk2 px2 s2a_2 hs2a => wpAny_pure ?_)
      have tO2a : IsTA g2a TO #[x1, a2, a3] := hs2a.extBut _ _ L.TO2 tO1
      refine wpAny_bind (wpAny_seqItems tO2a rfl ?_)
      refine wpAny_bind (updSeq tO2a fun g2 tO2 hs2 => ?_)
      replace tO2 : IsTA g2 TO #[x1, x2, a3] := tO2
      refine wpAny_bind (wpAny_letGo (wpAny_pure ?_))
      have s2_1 := D1.frame _ _ _ (D1.frame _ _ _ s1_1 fun b hb o e => hs2a.extBut b o (fun q => L.f12 (q ▸ hb)) e) fun b hb o e => hs2.extBut b o (fun q => L.fT1 (q ▸ hb)) e
      have s2_2 := D2.frame _ _ _ s2a_2 fun b hb o e => hs2.extBut b o (fun q => L.fT2 (q ▸ hb)) e
      have s2_3 := D3.frame _ _ _ (D3.frame _ _ _ s1_3 fun b hb o e => hs2a.extBut b o (fun q => L.f32 (q ▸ hb)) e) fun b hb o e => hs2.extBut b o (fun q => L.fT3 (q ▸ hb)) e
      have hz2 : IsZip g2 z TI TO .ellipsis := hs2.extBut _ _ L.TOz.symm (hs2a.extBut _ _ L.z2.symm hz1)
      have k2 : ∀ c o, c ≠ z → c ≠ TO → c ≠ i1 → c ≠ i2 → c ≠ i3 → s.heap.get? c = some o → g2.get? c = some o := fun c o c1 c2 d1 d2 d3 e => hs2.extBut _ _ c2 (hs2a.extBut _ _ d2 (k1 c o c1 c2 d1 d2 d3 e))
      refine wpAny_bind (wpAny_bind (wpAny_onRaise ?_))
      show wpAny _ _ (Builtin.SmallTypes.nextOf (.ref i3) >>= _) _ _ _
      have e3 : n3 = m := by omega
      rw [← e3] at s2_3
      refine wpAny_bind (D3.done _ _ _ s2_3 fun g e he hS => ?_)
      obtain ⟨oe, hoe, hce⟩ := hS
      have hzg : IsZip g z TI TO .ellipsis := he _ _ L.z3.symm hz2
      have hez : e ≠ z := fun q => by subst q; rw [hzg] at hoe; cases hoe; simp at hce
      refine wpAny_setField_rec hzg (by simp) fun h3 _ hs3 => hE h3 e _ (fun c o c1 c2 d1 d2 d3 x => hs3.extBut _ _ c1 (he _ _ d3 (k2 c o c1 c2 d1 d2 d3 x))) ⟨oe, hs3.extBut _ _ hez hoe, hce⟩
end
end L2

set_option Elab.async false
set_option linter.all false
set_option maxRecDepth 100000
set_option maxHeartbeats 4000000
namespace L2
open PySem PySem.Spec PyProof.Rows PySem.W
section
variable {prog : Program} {w : World} {A : Around} {E : Value → Shared → Prop} {s : Shared}
theorem nextOf_tup_item {it l : Addr} {i : Nat} {items} {x : Value} {Q : Value → Shared → Prop} (hit : s.heap.IsTupleIter it l i) (hl : s.heap.IsTuple l items) (hx : items[i]? = some x)
    (hQ : ∀ h', h'.IsTupleIter it l (i + 1) → Heap.SameBut it s.heap h' → Q x { s with heap := h' }) :
    wpAny (model prog w) A (Builtin.SmallTypes.nextOf (.ref it)) Q E s := by
  obtain ⟨o, ho, hc, hd⟩ := id hit
  obtain ⟨ol, hol, _, nl, hdl⟩ := hl
  unfold Builtin.SmallTypes.nextOf
  refine wpAny_bind (wpAny_callSpecial?_slot (name := Str.ofString "__next__") hit.typeIs F.slot_tuple_iterator_next (wpAny_call_entry F.slot_tuple_iterator_next hit.typeIs F.entry_tuple_iterator_next ?_ (F.args_tuple_iterator_next_1 _)))
  show wpAny _ _ (field (.ref it) 0 >>= _) _ _ s
  refine wpAny_bind (wpAny_field ho hd (x := .ref l) rfl ?_)
  show wpAny _ _ (if (Value.ref l == Value.none) = true then _ else _) _ _ s
  rw [if_neg (show ¬ ((Value.ref l == Value.none) = true) from Bool.false_ne_true)]
  show wpAny _ _ (field (.ref it) 1 >>= _) _ _ s
  refine wpAny_bind (wpAny_field ho hd (x := .int i 0) rfl ?_)
  show wpAny _ _ (seqItems? (.ref l) >>= _) _ _ s
  refine wpAny_bind (wpAny_seqItems hol hdl ?_)
  simp only [Int.toNat_natCast, hx]
  refine wpAny_bind (wpAny_setField ho hd (by simp) (wpAny_pure ⟨x, rfl, wpAny_pure (hQ _ ?_ (Heap.SameBut.update ..))⟩))
  exact ⟨_, Heap.get?_update_self _ ho (Obj.isFreed_of_fields (Obj.data_mapFields hd _)), (Obj.cls_mapFields ..).trans hc, by rw [Obj.data_mapFields hd]; simp [rawInt]⟩
theorem nextOf_tup_end {it l : Addr} {i : Nat} {items} {Q : Value → Shared → Prop} (hh : A.handled = none) (hit : s.heap.IsTupleIter it l i) (hl : s.heap.IsTuple l items) (hx : items[i]? = none)
    (hE : ∀ h' e, Heap.ExtBut it s.heap h' → (∃ o, h'.get? e = some o ∧ o.cls = .type "StopIteration") → E (.ref e) { s with heap := h' }) :
    wpAny (model prog w) A (Builtin.SmallTypes.nextOf (.ref it)) Q E s := by
  obtain ⟨o, ho, hc, hd⟩ := id hit
  obtain ⟨ol, hol, _, nl, hdl⟩ := hl
  unfold Builtin.SmallTypes.nextOf
  refine wpAny_bind (wpAny_callSpecial?_slot (name := Str.ofString "__next__") hit.typeIs F.slot_tuple_iterator_next (wpAny_call_entry F.slot_tuple_iterator_next hit.typeIs F.entry_tuple_iterator_next ?_ (F.args_tuple_iterator_next_1 _)))
  show wpAny _ _ (field (.ref it) 0 >>= _) _ _ s
  refine wpAny_bind (wpAny_field ho hd (x := .ref l) rfl ?_)
  show wpAny _ _ (if (Value.ref l == Value.none) = true then _ else _) _ _ s
  rw [if_neg (show ¬ ((Value.ref l == Value.none) = true) from Bool.false_ne_true)]
  show wpAny _ _ (field (.ref it) 1 >>= _) _ _ s
  refine wpAny_bind (wpAny_field ho hd (x := .int i 0) rfl ?_)
  show wpAny _ _ (seqItems? (.ref l) >>= _) _ _ s
  refine wpAny_bind (wpAny_seqItems hol hdl ?_)
  simp only [Int.toNat_natCast, hx]
  refine wpAny_bind (wpAny_rule (wpAny_bind (wpAny_setField ho hd (by simp) ?_)))
  show wpAny _ _ (newExc (.type "StopIteration") [] >>= _) _ _ _
  refine wpAny_bind ?_
  simp only [newExc, newTuple]
  refine wpAny_bind (wpAny_newObj_type ?_ (by size_fits))
  refine wpAny_bind (m := firstArgMember _ _) (wpAny_of_eq (a := Value.none) (by first | rfl | (simp only [firstArgMember]; rfl)) ?_)
  refine wpAny_newObj_type ?_ (by size_fits)
  simp only [raiseNew]
  refine wpAny_bind (wpAny_handled ?_)
  first | rw [show A.in1.handled = none from hh] | rw [hh]
  refine wpAny_bind (wpAny_pure (wpAny_throw ?_))
  exact hE _ _ (((Heap.SameBut.update ..).extBut.push _).push _) ⟨_, Heap.get?_push_size _ rfl, rfl⟩
theorem drawsTup (hh : A.handled = none) (it l : Addr) (hne : l ≠ it) (items : Array Value) : Draws prog w A it [it, l] items.size (fun i v => items[i]? = some v) (fun i h => h.IsTupleIter it l i ∧ h.IsTuple l items) where
  live := fun _ _ st => let ⟨o, ho, _⟩ := st.1; ⟨o, ho⟩
  frame := fun _ _ _ st hk => ⟨let ⟨o, ho, r⟩ := st.1; ⟨o, hk it (by simp) o ho, r⟩, let ⟨o, ho, r⟩ := st.2; ⟨o, hk l (by simp) o ho, r⟩⟩
  item := fun i s Q E hi st hQ => by
    refine nextOf_tup_item st.1 st.2 (x := items[i]) (by simp [hi]) fun h' hit' hs' => ?_
    exact hQ _ h' s.toks (by simp [hi]) ⟨hit', st.2.extBut hs'.extBut hne⟩ hs'
  done := fun s Q E st hE => nextOf_tup_end hh st.1 st.2 (by simp) hE
end
/-- what is walked within a zip: a list, a text, a tuple -/
inductive Src where
  | L (a : Addr) | T (l : List Nat) (t : Tok) | U (a : Addr)
def Src.it : Src → Addr → Nat → Heap → Prop
  | .L a, j, i, h => h.IsListIter j a i
  | .T l t, j, i, h => h.IsStrIter j (strIterType ⟨l.toArray⟩) ⟨l.toArray⟩ t i
  | .U a, j, i, h => h.IsTupleIter j a i
def Src.vals (K : PySem.W.Frag) (H : Hp) : Src → List V → Prop
  | .L a, xs => SqL K H a xs
  | .T l _, xs => xs = sgs l
  | .U a, xs => SqT K H a xs
def Src.fp : Src → Addr → List Addr
  | .L a, j => [j, a]
  | .T _ _, j => [j]
  | .U a, j => [j, a]
def Src.con : Src → List Value → Heap → Prop
  | .L a, us, h => h.IsList a us.toArray
  | .T _ _, _, _ => True
  | .U a, us, h => h.IsTuple a us.toArray
def Src.num : Src → List Value → Nat
  | .L _, us => us.length
  | .T l _, _ => l.length
  | .U _, us => us.length
def Src.P : Src → List Value → Nat → Value → Prop
  | .L _, us, i, v => us.toArray[i]? = some v
  | .T l _, _, i, v => ∃ c u, l[i]? = some c ∧ v = .str ⟨#[c]⟩ u
  | .U _, us, i, v => us.toArray[i]? = some v
def Src.lt : Src → Nat → Prop
  | .L a, n => a < n
  | .T _ _, _ => True
  | .U a, n => a < n
def Src.val : Src → Value
  | .L a => .ref a
  | .T l t => .str ⟨l.toArray⟩ t
  | .U a => .ref a
def Src.obj : Src → Obj
  | .L a => { cls := .type "list_iterator", data := .fields #[.ref a, .int 0 0] }
  | .T l t => { cls := .type (strIterType ⟨l.toArray⟩), data := .fields #[.str ⟨l.toArray⟩ t, .int 0 0] }
  | .U a => { cls := .type "tuple_iterator", data := .fields #[.ref a, .int 0 0] }
theorem Src.draws {prog : Program} {w : World} {A : Around} (hh : A.handled = none) (sc : Src) {j : Addr} (hj : sc.lt j) (us : List Value) : Draws prog w A j (sc.fp j) (sc.num us) (sc.P us) (fun i h => sc.it j i h ∧ sc.con us h) := by
  cases sc with
  | L a => exact Draws.list hh j a (Nat.ne_of_lt hj) us.toArray
  | U a => exact drawsTup hh j a (Nat.ne_of_lt hj) us.toArray
  | T l t =>
    have go : ∀ ty, ty = strIterType ⟨l.toArray⟩ → Draws prog w A j [j] l.length (fun i v => ∃ c u, l[i]? = some c ∧ v = .str ⟨#[c]⟩ u) (fun i h => h.IsStrIter j ty ⟨l.toArray⟩ t i) := fun ty hty => by
      have ht : ty = "str_ascii_iterator" ∨ ty = "str_iterator" := by
        rw [hty]
        unfold strIterType
        split
        · exact .inl rfl
        · exact .inr rfl
      rcases ht with h | h
      · rw [h]; simpa using Draws.strAscii (prog := prog) (w := w) hh j ⟨l.toArray⟩ t
      · rw [h]; simpa using Draws.strWide (prog := prog) (w := w) hh j ⟨l.toArray⟩ t
    have D := go _ rfl
    exact ⟨fun i h st => D.live i h st.1, fun i h h' st k => ⟨D.frame i h h' st.1 k, trivial⟩, fun i s Q E hi st hQ => D.item i s Q E hi st.1 fun x h' tk p st' sb => hQ x h' tk p ⟨st', trivial⟩ sb, fun s Q E st hE => D.done s Q E st.1 hE⟩
theorem Src.use {X : Cx} {pins : List (Addr × Obj)} {σ : St} {H : Hp} {s : Shared} (I : Inv X pins σ H s) {sc : Src} {xs : List V} (hv : sc.vals X.K H xs) : ∃ us, sc.con us s.heap ∧ sc.num us = xs.length ∧ ∀ i v, sc.P us i v → ∃ x, xs[i]? = some x ∧ RelV x v := by
  cases sc with
  | L a =>
    obtain ⟨us, rv, p, _⟩ := I.list hv
    refine ⟨us, p.isList, rv.length.symm, fun i v h => ?_⟩
    have h' : us[i]? = some v := by simpa using (show us.toArray[i]? = some v from h)
    have hi : i < us.length := (List.getElem?_eq_some_iff.mp h').1
    have hx : i < xs.length := by rw [rv.length]; exact hi
    obtain ⟨u, hu, ru⟩ := rv.get (x := xs[i]) (i := i) (by simp [hx])
    rw [h'] at hu
    cases hu
    exact ⟨xs[i], by simp [hx], ru⟩
  | U a =>
    obtain ⟨us, rv, p, _⟩ := I.tuple hv
    refine ⟨us, p, rv.length.symm, fun i v h => ?_⟩
    have h' : us[i]? = some v := by simpa using (show us.toArray[i]? = some v from h)
    have hi : i < us.length := (List.getElem?_eq_some_iff.mp h').1
    have hx : i < xs.length := by rw [rv.length]; exact hi
    obtain ⟨u, hu, ru⟩ := rv.get (x := xs[i]) (i := i) (by simp [hx])
    rw [h'] at hu
    cases hu
    exact ⟨xs[i], by simp [hx], ru⟩
  | T l t =>
    have e : xs = sgs l := hv
    subst e
    refine ⟨[], trivial, (sgs_length l).symm, fun i v h => ?_⟩
    obtain ⟨c, u, hc, rfl⟩ := h
    exact ⟨S [c], by simp [sgs, hc], ⟨u, rfl⟩⟩
theorem Src.inj {X : Cx} {pins : List (Addr × Obj)} {σ : St} {H : Hp} {s : Shared} (I : Inv X pins σ H s) {sc : Src} {xs ys : List V} (h : sc.vals X.K H xs) (h' : sc.vals X.K H ys) : xs = ys := by
  cases sc with
  | L a => exact I.list_inj h h'
  | U a => exact I.tuple_inj h h'
  | T l t => exact (show xs = sgs l from h).trans (show ys = sgs l from h').symm
theorem Src.it_keep {sc : Src} {j : Addr} {i : Nat} {h h' : Heap} (x : sc.it j i h) (k : ∀ o, h.get? j = some o → h'.get? j = some o) : sc.it j i h' := by
  cases sc with
  | L a => exact Heap.IsListIter.at x k
  | U a => obtain ⟨o, e, r⟩ := x; exact ⟨o, k o e, r⟩
  | T l t => obtain ⟨o, e, r⟩ := x; exact ⟨o, k o e, r⟩
theorem Src.it_obj {sc : Src} {j : Addr} {i : Nat} {h : Heap} (x : sc.it j i h) : ∃ o, h.get? j = some o ∧ ∀ v, o.data ≠ .cell v := by
  cases sc with
  | L a => obtain ⟨o, e, c, d⟩ := x; exact ⟨o, e, fun v z => by rw [d] at z; cases z⟩
  | U a => obtain ⟨o, e, c, d⟩ := x; exact ⟨o, e, fun v z => by rw [d] at z; cases z⟩
  | T l t => obtain ⟨o, e, c, d⟩ := x; exact ⟨o, e, fun v z => by rw [d] at z; cases z⟩
theorem Src.it_new {sc : Src} {j : Addr} {h : Heap} (e : h.get? j = some sc.obj) : sc.it j 0 h := by
  cases sc with
  | L a => exact ⟨_, e, rfl, rfl⟩
  | U a => exact ⟨_, e, rfl, rfl⟩
  | T l t => exact ⟨_, e, rfl, rfl⟩
/-- what an iterator may be made of -/
def Src.ok : Src → Heap → Prop
  | .L a, h => ∃ items, h.IsList a items
  | .T _ _, _ => True
  | .U a, h => ∃ items, h.IsTuple a items
theorem Src.iter {prog : Program} {w : World} {A : Around} {E : Value → Shared → Prop} {s : Shared} {sc : Src} {Q : Value → Shared → Prop} (ok : sc.ok s.heap) (hQ : Q (.ref s.heap.objs.size) { s with heap := s.heap.push sc.obj }) : wpAny (model prog w) A (pyIter sc.val) Q E s := by
  cases sc with
  | L a => obtain ⟨items, hl⟩ := ok; exact wpAny_pyIter_list hl hQ
  | U a => obtain ⟨items, hl⟩ := ok; exact wpAny_pyIter_tuple hl hQ
  | T l t => exact wpAny_pyIter_strU hQ
theorem Src.ok_push {sc : Src} {h : Heap} {o : Obj} (x : sc.ok h) : sc.ok (h.push o) := by
  cases sc with
  | L a => obtain ⟨items, hl⟩ := x; exact ⟨items, hl.push _⟩
  | U a => obtain ⟨items, hl⟩ := x; exact ⟨items, hl.push _⟩
  | T l t => trivial
def Itz2 (K : PySem.W.Frag) (s1 s2 : Src) : It :=
  ⟨fun i H => ∃ xs1 xs2, s1.vals K H xs1 ∧ s2.vals K H xs2 ∧ i < min (xs1.length) xs2.length,
   fun i H x H' => ∃ T x1 x2, x = .ref T ∧ H T = none ∧ H' = upd H T (.tup [x1, x2]) ∧ (∀ xs, s1.vals K H xs → xs[i]? = some x1) ∧ (∀ xs, s2.vals K H xs → xs[i]? = some x2),
   fun i H => ∃ xs1 xs2, s1.vals K H xs1 ∧ s2.vals K H xs2 ∧ i = min (xs1.length) xs2.length⟩
theorem turn_z2 {P : Program} {w : World} {K : PySem.W.Frag} {elts : List Expr} {kk : Nat} {tpos : Pos} {z TI TO i1 i2 : Addr} {s1 s2 : Src} (L : ZA2 z TI TO i1 i2 (s1.fp i1) (s2.fp i2)) (l1 : s1.lt i1) (l2 : s2.lt i2) :
    Turn P w K (.Tuple elts kk tpos) (Itz2 K s1 s2) [z, TI, TO, i1, i2] z (fun i h => IsZip h z TI TO .none ∧ IsTA h TI #[.ref i1, .ref i2] ∧ (∃ a1 a2, IsTA h TO #[a1, a2]) ∧ s1.it i1 i h ∧ s2.it i2 i h) where
  mem := by simp
  obj := fun i h st b hb => by
    obtain ⟨hz, hTI, ⟨a1, a2, hTO⟩, t1, t2⟩ := st
    simp only [List.mem_cons, List.not_mem_nil, or_false] at hb
    rcases hb with rfl | rfl | rfl | rfl | rfl
    · exact ⟨_, hz, fun v z => nomatch z⟩
    · exact ⟨_, hTI, fun v z => nomatch z⟩
    · exact ⟨_, hTO, fun v z => nomatch z⟩
    · exact (Src.it_obj t1)
    · exact (Src.it_obj t2)
  keep := fun i h h' st k => by
    obtain ⟨hz, hTI, ⟨a1, a2, hTO⟩, t1, t2⟩ := st
    exact ⟨k z (by simp) _ hz, k TI (by simp) _ hTI, ⟨a1, a2, k TO (by simp) _ hTO⟩, (Src.it_keep t1 fun o e => k i1 (by simp) o e), (Src.it_keep t2 fun o e => k i2 (by simp) o e)⟩
  item := by
    intro X hP hw hK hc i pins s σ H E I hf st hg
    subst hP hw hK
    obtain ⟨xs1, xs2, hq1, hq2, hi⟩ := hg
    obtain ⟨us1, c1, m1, r1⟩ := Src.use I hq1
    obtain ⟨us2, c2, m2, r2⟩ := Src.use I hq2
    obtain ⟨hz, hTI, ⟨a1, a2, hTO⟩, t1, t2⟩ := st
    have hT : s.TypeIs (.ref z) "zip" := ⟨_, hz, rfl⟩
    have D1 := Src.draws (prog := X.prog) (w := X.w) (A := X.A.in1) (I.ok.hd hc) s1 l1 us1
    have D2 := Src.draws (prog := X.prog) (w := X.w) (A := X.A.in1) (I.ok.hd hc) s2 l2 us2
    unfold pyNext
    refine wpAny_bind (wpAny_attempt (wpAny_callSpecial?_slot (name := Str.ofString "__next__") hT F.slot_zip_next (wpAny_call_entry F.slot_zip_next hT F.entry_zip_next (zn_item2 L D1 D2 hz hTI hTO ⟨t1, c1⟩ ⟨t2, c2⟩ (by rw [m1]; omega) (by rw [m2]; omega) fun v1 v2 h' tk p1 p2 y1 y2 w1 w2 y3 hk => wpAny_pure ?_) (F.args_zip_next_1 _))))
    refine ⟨_, rfl, wpAny_letOwnedTupleGo_zip y1 fun h'' hz'' hs'' => ?_⟩
    obtain ⟨x1, gx1, rx1⟩ := r1 i v1 p1
    obtain ⟨x2, gx2, rx2⟩ := r2 i v2 p2
    have lt : ∀ {c o}, s.heap.get? c = some o → s.heap.objs.size ≠ c := fun e => Nat.ne_of_gt (Heap.lt_size e)
    have hTz : s.heap.objs.size ≠ z := lt hz
    have kAll : ∀ b o, b ∉ [z, TO, i1, i2] → s.heap.get? b = some o → h''.get? b = some o := fun b o hb e => hs''.extBut _ _ (fun q => hb (by simp [q])) (hk b o (fun q => hb (by simp [q])) (fun q => hb (by simp [q])) (fun q => hb (by simp [q])) (fun q => hb (by simp [q])) e)
    have I2 : Inv X pins σ (upd H s.heap.objs.size (.tup [x1, x2])) { s with heap := h'', toks := tk } :=
      I.turnedT (ch := [z, TO, i1, i2]) (fun b hb => hf b (by simp only [List.mem_cons, List.not_mem_nil, or_false] at hb ⊢; rcases hb with h | h | h | h <;> simp [h])) kAll (Nat.le_refl _)
        ⟨by show 2 ≤ sizeLine; decide, [v1, v2], (.cons rx1 (.cons rx2 .nil)), ⟨_, hs''.extBut _ _ hTz y3, rfl, _, rfl⟩⟩
    refine ⟨.ref s.heap.objs.size, _, I2, rfl, ⟨s.heap.objs.size, x1, x2, rfl, I.hok.fresh (Nat.le_refl _), rfl, (fun xs h => by rw [Src.inj I h hq1]; exact gx1), (fun xs h => by rw [Src.inj I h hq2]; exact gx2)⟩, ⟨hz'', hs''.extBut _ _ L.TIz (hk _ _ L.TIz L.TITO L.TI1 L.TI2 hTI), ⟨_, _, hs''.extBut _ _ L.TOz y2⟩, (Src.it_keep w1.1 fun o e => hs''.extBut _ _ L.z1 e), (Src.it_keep w2.1 fun o e => hs''.extBut _ _ L.z2 e)⟩, fun b hb => ?_⟩
    have bne : b ≠ s.heap.objs.size := by
      rintro rfl
      have st2 : ∃ o, s.heap.get? s.heap.objs.size = some o := by
        simp only [List.mem_cons, List.not_mem_nil, or_false] at hb
        rcases hb with h | h | h | h | h
        · rw [h]; exact ⟨_, hz⟩
        · rw [h]; exact ⟨_, hTI⟩
        · rw [h]; exact ⟨_, hTO⟩
        · rw [h]; obtain ⟨o, e, _⟩ := (Src.it_obj t1); exact ⟨o, e⟩
        · rw [h]; obtain ⟨o, e, _⟩ := (Src.it_obj t2); exact ⟨o, e⟩
      obtain ⟨o, e⟩ := st2
      exact absurd (Heap.lt_size e) (Nat.lt_irrefl _)
    rw [upd_ne bne]
    exact (hf b hb).1
  done := by
    intro X hP hw hK hc i pins s σ H E I hf st hg
    subst hP hw hK
    obtain ⟨xs1, xs2, hq1, hq2, hi⟩ := hg
    obtain ⟨us1, c1, m1, r1⟩ := Src.use I hq1
    obtain ⟨us2, c2, m2, r2⟩ := Src.use I hq2
    obtain ⟨hz, hTI, ⟨a1, a2, hTO⟩, t1, t2⟩ := st
    have hT : s.TypeIs (.ref z) "zip" := ⟨_, hz, rfl⟩
    have D1 := Src.draws (prog := X.prog) (w := X.w) (A := X.A.in1) (I.ok.hd hc) s1 l1 us1
    have D2 := Src.draws (prog := X.prog) (w := X.w) (A := X.A.in1) (I.ok.hd hc) s2 l2 us2
    have ei : i = min (s1.num us1) (s2.num us2) := by rw [m1, m2]; exact hi
    rw [ei] at t1 t2
    unfold pyNext
    refine wpAny_bind (wpAny_attempt (wpAny_callSpecial?_slot (name := Str.ofString "__next__") hT F.slot_zip_next (wpAny_call_entry F.slot_zip_next hT F.entry_zip_next (zn_end2 L D1 D2 hz hTI hTO ⟨t1, c1⟩ ⟨t2, c2⟩ fun h' e tk hk he => ?_) (F.args_zip_next_1 _))))
    obtain ⟨o, ho, hc'⟩ := he
    refine wpAny_bind (wpAny_isInstance (T := "StopIteration") (b := true) ⟨o, ho, hc'⟩ isSubtype_stop ?_)
    exact wpAny_pure ⟨rfl, I.turnedL (ch := [z, TO, i1, i2]) (fun b hb => hf b (by simp only [List.mem_cons, List.not_mem_nil, or_false] at hb ⊢; rcases hb with h | h | h | h <;> simp [h])) fun b u hb e => hk b u (fun q => hb (by simp [q])) (fun q => hb (by simp [q])) (fun q => hb (by simp [q])) (fun q => hb (by simp [q])) e⟩
  self := fun _ _ _ _ _ st h => wpAny_pyIter_zip st.1 h
def Itz3 (K : PySem.W.Frag) (s1 s2 s3 : Src) : It :=
  ⟨fun i H => ∃ xs1 xs2 xs3, s1.vals K H xs1 ∧ s2.vals K H xs2 ∧ s3.vals K H xs3 ∧ i < min (min (xs1.length) xs2.length) xs3.length,
   fun i H x H' => ∃ T x1 x2 x3, x = .ref T ∧ H T = none ∧ H' = upd H T (.tup [x1, x2, x3]) ∧ (∀ xs, s1.vals K H xs → xs[i]? = some x1) ∧ (∀ xs, s2.vals K H xs → xs[i]? = some x2) ∧ (∀ xs, s3.vals K H xs → xs[i]? = some x3),
   fun i H => ∃ xs1 xs2 xs3, s1.vals K H xs1 ∧ s2.vals K H xs2 ∧ s3.vals K H xs3 ∧ i = min (min (xs1.length) xs2.length) xs3.length⟩
theorem turn_z3 {P : Program} {w : World} {K : PySem.W.Frag} {elts : List Expr} {kk : Nat} {tpos : Pos} {z TI TO i1 i2 i3 : Addr} {s1 s2 s3 : Src} (L : ZA3 z TI TO i1 i2 i3 (s1.fp i1) (s2.fp i2) (s3.fp i3)) (l1 : s1.lt i1) (l2 : s2.lt i2) (l3 : s3.lt i3) :
    Turn P w K (.Tuple elts kk tpos) (Itz3 K s1 s2 s3) [z, TI, TO, i1, i2, i3] z (fun i h => IsZip h z TI TO .none ∧ IsTA h TI #[.ref i1, .ref i2, .ref i3] ∧ (∃ a1 a2 a3, IsTA h TO #[a1, a2, a3]) ∧ s1.it i1 i h ∧ s2.it i2 i h ∧ s3.it i3 i h) where
  mem := by simp
  obj := fun i h st b hb => by
    obtain ⟨hz, hTI, ⟨a1, a2, a3, hTO⟩, t1, t2, t3⟩ := st
    simp only [List.mem_cons, List.not_mem_nil, or_false] at hb
    rcases hb with rfl | rfl | rfl | rfl | rfl | rfl
    · exact ⟨_, hz, fun v z => nomatch z⟩
    · exact ⟨_, hTI, fun v z => nomatch z⟩
    · exact ⟨_, hTO, fun v z => nomatch z⟩
    · exact (Src.it_obj t1)
    · exact (Src.it_obj t2)
    · exact (Src.it_obj t3)
  keep := fun i h h' st k => by
    obtain ⟨hz, hTI, ⟨a1, a2, a3, hTO⟩, t1, t2, t3⟩ := st
    exact ⟨k z (by simp) _ hz, k TI (by simp) _ hTI, ⟨a1, a2, a3, k TO (by simp) _ hTO⟩, (Src.it_keep t1 fun o e => k i1 (by simp) o e), (Src.it_keep t2 fun o e => k i2 (by simp) o e), (Src.it_keep t3 fun o e => k i3 (by simp) o e)⟩
  item := by
    intro X hP hw hK hc i pins s σ H E I hf st hg
    subst hP hw hK
    obtain ⟨xs1, xs2, xs3, hq1, hq2, hq3, hi⟩ := hg
    obtain ⟨us1, c1, m1, r1⟩ := Src.use I hq1
    obtain ⟨us2, c2, m2, r2⟩ := Src.use I hq2
    obtain ⟨us3, c3, m3, r3⟩ := Src.use I hq3
    obtain ⟨hz, hTI, ⟨a1, a2, a3, hTO⟩, t1, t2, t3⟩ := st
    have hT : s.TypeIs (.ref z) "zip" := ⟨_, hz, rfl⟩
    have D1 := Src.draws (prog := X.prog) (w := X.w) (A := X.A.in1) (I.ok.hd hc) s1 l1 us1
    have D2 := Src.draws (prog := X.prog) (w := X.w) (A := X.A.in1) (I.ok.hd hc) s2 l2 us2
    have D3 := Src.draws (prog := X.prog) (w := X.w) (A := X.A.in1) (I.ok.hd hc) s3 l3 us3
    unfold pyNext
    refine wpAny_bind (wpAny_attempt (wpAny_callSpecial?_slot (name := Str.ofString "__next__") hT F.slot_zip_next (wpAny_call_entry F.slot_zip_next hT F.entry_zip_next (zn_item3 L D1 D2 D3 hz hTI hTO ⟨t1, c1⟩ ⟨t2, c2⟩ ⟨t3, c3⟩ (by rw [m1]; omega) (by rw [m2]; omega) (by rw [m3]; omega) fun v1 v2 v3 h' tk p1 p2 p3 y1 y2 w1 w2 w3 y3 hk => wpAny_pure ?_) (F.args_zip_next_1 _))))
    refine ⟨_, rfl, wpAny_letOwnedTupleGo_zip y1 fun h'' hz'' hs'' => ?_⟩
    obtain ⟨x1, gx1, rx1⟩ := r1 i v1 p1
    obtain ⟨x2, gx2, rx2⟩ := r2 i v2 p2
    obtain ⟨x3, gx3, rx3⟩ := r3 i v3 p3
    have lt : ∀ {c o}, s.heap.get? c = some o → s.heap.objs.size ≠ c := fun e => Nat.ne_of_gt (Heap.lt_size e)
    have hTz : s.heap.objs.size ≠ z := lt hz
    have kAll : ∀ b o, b ∉ [z, TO, i1, i2, i3] → s.heap.get? b = some o → h''.get? b = some o := fun b o hb e => hs''.extBut _ _ (fun q => hb (by simp [q])) (hk b o (fun q => hb (by simp [q])) (fun q => hb (by simp [q])) (fun q => hb (by simp [q])) (fun q => hb (by simp [q])) (fun q => hb (by simp [q])) e)
    have I2 : Inv X pins σ (upd H s.heap.objs.size (.tup [x1, x2, x3])) { s with heap := h'', toks := tk } :=
      I.turnedT (ch := [z, TO, i1, i2, i3]) (fun b hb => hf b (by simp only [List.mem_cons, List.not_mem_nil, or_false] at hb ⊢; rcases hb with h | h | h | h | h <;> simp [h])) kAll (Nat.le_refl _)
        ⟨by show 3 ≤ sizeLine; decide, [v1, v2, v3], (.cons rx1 (.cons rx2 (.cons rx3 .nil))), ⟨_, hs''.extBut _ _ hTz y3, rfl, _, rfl⟩⟩
    refine ⟨.ref s.heap.objs.size, _, I2, rfl, ⟨s.heap.objs.size, x1, x2, x3, rfl, I.hok.fresh (Nat.le_refl _), rfl, (fun xs h => by rw [Src.inj I h hq1]; exact gx1), (fun xs h => by rw [Src.inj I h hq2]; exact gx2), (fun xs h => by rw [Src.inj I h hq3]; exact gx3)⟩, ⟨hz'', hs''.extBut _ _ L.TIz (hk _ _ L.TIz L.TITO L.TI1 L.TI2 L.TI3 hTI), ⟨_, _, _, hs''.extBut _ _ L.TOz y2⟩, (Src.it_keep w1.1 fun o e => hs''.extBut _ _ L.z1 e), (Src.it_keep w2.1 fun o e => hs''.extBut _ _ L.z2 e), (Src.it_keep w3.1 fun o e => hs''.extBut _ _ L.z3 e)⟩, fun b hb => ?_⟩
    have bne : b ≠ s.heap.objs.size := by
      rintro rfl
      have st2 : ∃ o, s.heap.get? s.heap.objs.size = some o := by
        simp only [List.mem_cons, List.not_mem_nil, or_false] at hb
        rcases hb with h | h | h | h | h | h
        · rw [h]; exact ⟨_, hz⟩
        · rw [h]; exact ⟨_, hTI⟩
        · rw [h]; exact ⟨_, hTO⟩
        · rw [h]; obtain ⟨o, e, _⟩ := (Src.it_obj t1); exact ⟨o, e⟩
        · rw [h]; obtain ⟨o, e, _⟩ := (Src.it_obj t2); exact ⟨o, e⟩
        · rw [h]; obtain ⟨o, e, _⟩ := (Src.it_obj t3); exact ⟨o, e⟩
      obtain ⟨o, e⟩ := st2
      exact absurd (Heap.lt_size e) (Nat.lt_irrefl _)
    rw [upd_ne bne]
    exact (hf b hb).1
  done := by
    intro X hP hw hK hc i pins s σ H E I hf st hg
    subst hP hw hK
    obtain ⟨xs1, xs2, xs3, hq1, hq2, hq3, hi⟩ := hg
    obtain ⟨us1, c1, m1, r1⟩ := Src.use I hq1
    obtain ⟨us2, c2, m2, r2⟩ := Src.use I hq2
    obtain ⟨us3, c3, m3, r3⟩ := Src.use I hq3
    obtain ⟨hz, hTI, ⟨a1, a2, a3, hTO⟩, t1, t2, t3⟩ := st
    have hT : s.TypeIs (.ref z) "zip" := ⟨_, hz, rfl⟩
    have D1 := Src.draws (prog := X.prog) (w := X.w) (A := X.A.in1) (I.ok.hd hc) s1 l1 us1
    have D2 := Src.draws (prog := X.prog) (w := X.w) (A := X.A.in1) (I.ok.hd hc) s2 l2 us2
    have D3 := Src.draws (prog := X.prog) (w := X.w) (A := X.A.in1) (I.ok.hd hc) s3 l3 us3
    have ei : i = min (min (s1.num us1) (s2.num us2)) (s3.num us3) := by rw [m1, m2, m3]; exact hi
    rw [ei] at t1 t2 t3
    unfold pyNext
    refine wpAny_bind (wpAny_attempt (wpAny_callSpecial?_slot (name := Str.ofString "__next__") hT F.slot_zip_next (wpAny_call_entry F.slot_zip_next hT F.entry_zip_next (zn_end3 L D1 D2 D3 hz hTI hTO ⟨t1, c1⟩ ⟨t2, c2⟩ ⟨t3, c3⟩ fun h' e tk hk he => ?_) (F.args_zip_next_1 _))))
    obtain ⟨o, ho, hc'⟩ := he
    refine wpAny_bind (wpAny_isInstance (T := "StopIteration") (b := true) ⟨o, ho, hc'⟩ isSubtype_stop ?_)
    exact wpAny_pure ⟨rfl, I.turnedL (ch := [z, TO, i1, i2, i3]) (fun b hb => hf b (by simp only [List.mem_cons, List.not_mem_nil, or_false] at hb ⊢; rcases hb with h | h | h | h | h <;> simp [h])) fun b u hb e => hk b u (fun q => hb (by simp [q])) (fun q => hb (by simp [q])) (fun q => hb (by simp [q])) (fun q => hb (by simp [q])) (fun q => hb (by simp [q])) e⟩
  self := fun _ _ _ _ _ st h => wpAny_pyIter_zip st.1 h
end L2

set_option Elab.async false
set_option linter.all false
set_option maxRecDepth 100000
set_option maxHeartbeats 4000000
namespace L2
open PySem PySem.Spec PyProof.Rows PySem.W
theorem tc_zip3 (a b c : Value) : checkTypeCall "zip" ⟨[a, b, c], []⟩ = pure () := by kernel_rfl
theorem nc_zip3 (a b c : Value) : checkBuiltinCall "zip.__new__" ⟨[.type "zip", a, b, c], []⟩ = pure () := by kernel_rfl
theorem ai_zip4 (a b c d : Value) : argsOk "object.__init__" ⟨[a, b, c, d], []⟩ := by
  unfold argsOk; rw [signature?_of (id := "object.__init__") (n := ['_', '_', 't', 'i', 'n', 'i', '_', '_']) (o := ['t', 'c', 'e', 'j', 'b', 'o']) (by kernel_rfl) F.owner_object]; kernel_rfl
def Src.isV : Src → Nat → V → Prop
  | .L a, k, v => k = 0 ∧ v = .ref a
  | .T l _, k, v => k = 1 ∧ v = S l
  | .U a, k, v => k = 2 ∧ v = .ref a
def SeqV (k : Nat) (K : PySem.W.Frag) (H : Hp) (v : V) : Prop := (k = 0 ∧ ∃ a xs, v = .ref a ∧ SqL K H a xs) ∨ (k = 1 ∧ ∃ l, v = S l) ∨ (k = 2 ∧ ∃ a xs, v = .ref a ∧ SqT K H a xs)
theorem SeqV.mono {k : Nat} {K : PySem.W.Frag} {H H' : Hp} {v : V} (h : SeqV k K H v) (s : Same H H') : SeqV k K H' v := by
  rcases h with ⟨e, a, xs, rfl, hq⟩ | h | ⟨e, a, xs, rfl, hq⟩
  · exact .inl ⟨e, a, xs, rfl, s.seq hq⟩
  · exact .inr (.inl h)
  · exact .inr (.inr ⟨e, a, xs, rfl, s.seqT hq⟩)
theorem SeqV.src {X : Cx} {pins : List (Addr × Obj)} {σ : St} {H : Hp} {s : Shared} (I : Inv X pins σ H s) {v : V} {u : Value} {k : Nat} (h : SeqV k X.K H v) (r : RelV v u) : ∃ sc : Src, sc.isV k v ∧ u = sc.val ∧ sc.ok s.heap ∧ sc.lt s.heap.objs.size := by
  rcases h with ⟨rfl, a, xs, rfl, hq⟩ | ⟨rfl, l, rfl⟩ | ⟨rfl, a, xs, rfl, hq⟩
  · cases r
    obtain ⟨its, _, p, _⟩ := I.list hq
    obtain ⟨o, e, _⟩ := id p.isList
    exact ⟨.L a, ⟨rfl, rfl⟩, rfl, ⟨_, p.isList⟩, Heap.lt_size e⟩
  · obtain ⟨t, rfl⟩ := r
    exact ⟨.T l t, ⟨rfl, rfl⟩, rfl, trivial, trivial⟩
  · cases r
    obtain ⟨its, _, p, _⟩ := I.tuple hq
    obtain ⟨o, e, _⟩ := id p
    exact ⟨.U a, ⟨rfl, rfl⟩, rfl, ⟨_, p⟩, Heap.lt_size e⟩
theorem Src.mono {K : PySem.W.Frag} {H H' : Hp} {sc : Src} {xs : List V} (h : sc.vals K H xs) (s : Same H H') : sc.vals K H' xs := by
  cases sc with
  | L a => exact s.seq h
  | U a => exact s.seqT h
  | T l t => exact h
theorem Src.lt_mono {sc : Src} {m n : Nat} (h : sc.lt m) (k : m ≤ n) : sc.lt n := by
  cases sc with
  | L a => exact Nat.lt_of_lt_of_le h k
  | U a => exact Nat.lt_of_lt_of_le h k
  | T l t => trivial
theorem Src.not_fp {sc : Src} {m : Nat} {j b : Addr} (h : sc.lt m) (hb : m ≤ b) (hj : b ≠ j) : b ∉ sc.fp j := by
  cases sc with
  | L a =>
    intro z
    rcases List.mem_cons.mp z with z | z
    · exact hj z
    · have : b = a := by simpa using z
      subst this
      exact absurd (Nat.lt_of_lt_of_le (show b < m from h) hb) (Nat.lt_irrefl _)
  | U a =>
    intro z
    rcases List.mem_cons.mp z with z | z
    · exact hj z
    · have : b = a := by simpa using z
      subst this
      exact absurd (Nat.lt_of_lt_of_le (show b < m from h) hb) (Nat.lt_irrefl _)
  | T l t => intro z; exact hj (by simpa [Src.fp] using z)
/-- the data of what is walked -/
theorem seq_vals {K : PySem.W.Frag} {H : Hp} {d : Dt} {ds : List Dt} {v : V} (h : sqM d = .ok ds) (r : Rep K H d v) : ∃ k, SeqV k K H v ∧ ∀ sc : Src, sc.isV k v → ∃ xs, sc.vals K H xs ∧ Reps K H ds xs := by
  cases d with
  | lst l =>
    cases h
    obtain ⟨a, xs, rfl, h1, h2⟩ := repL r
    refine ⟨0, .inl ⟨rfl, a, xs, rfl, h1⟩, fun sc hs => ?_⟩
    cases sc with
    | L b => cases (show V.ref a = .ref b from hs.2); exact ⟨xs, h1, h2⟩
    | T m t => exact nomatch hs.1
    | U b => exact nomatch hs.1
  | str l =>
    cases h
    have e : v = S l := by simpa only [Rep] using r
    subst e
    refine ⟨1, .inr (.inl ⟨rfl, l, rfl⟩), fun sc hs => ?_⟩
    cases sc with
    | L b => exact nomatch hs.1
    | U b => exact nomatch hs.1
    | T m t =>
      have := S_inj (show S l = S m from hs.2)
      subst this
      exact ⟨sgs l, rfl, reps_sgs l⟩
  | _ => cases h
def zA2 (hp : Heap) (s1 s2 : Src) : Heap := ((hp.push s1.obj).push s2.obj).push { cls := .type "tuple", data := .seq #[.ref (hp).objs.size, .ref ((hp.push s1.obj)).objs.size] }
def zB2 (hp : Heap) (s1 s2 : Src) : Heap := (zA2 hp s1 s2).push { cls := .type "tuple", data := .seq #[.none, .none] }
def zC2 (hp : Heap) (s1 s2 : Src) : Heap := (zB2 hp s1 s2).push { cls := .type "zip", data := .fields #[.none, .bool false, .bool false, .ref (((hp.push s1.obj).push s2.obj)).objs.size, .ref (zA2 hp s1 s2).objs.size] }
theorem mz2 (s1 s2 : Src) : Meets (Builtin.«zip.__new__» ⟨[.type "zip", s1.val, s2.val], []⟩) (fun _ R s => s1.ok s.heap ∧ s2.ok s.heap ∧ R (.ok (.ret (.ref (zB2 s.heap s1 s2).objs.size))) { s with heap := zC2 s.heap s1 s2 }) :=
  .of_wp fun prog w A R s h => by
    obtain ⟨hp, g, d, tk, os⟩ := s
    obtain ⟨o1, o2, h⟩ := h
    have hsub := sub_zip
    have hI1 : ∀ {A : Around} {E : Value → Shared → Prop} {Q : Value → Shared → Prop}, Q (.ref (hp).objs.size) ⟨(hp.push s1.obj), g, d, tk, os⟩ → wpAny (model prog w) A (pyIter s1.val) Q E ⟨hp, g, d, tk, os⟩ := fun q => Src.iter (s := ⟨hp, g, d, tk, os⟩) o1 q
    have hI2 : ∀ {A : Around} {E : Value → Shared → Prop} {Q : Value → Shared → Prop}, Q (.ref ((hp.push s1.obj)).objs.size) ⟨((hp.push s1.obj).push s2.obj), g, d, tk, os⟩ → wpAny (model prog w) A (pyIter s2.val) Q E ⟨(hp.push s1.obj), g, d, tk, os⟩ := fun q => Src.iter (s := ⟨(hp.push s1.obj), g, d, tk, os⟩) (Src.ok_push o2) q
    wp_walk using hI1, hI2
    exact ⟨_, rfl, h⟩
def zA3 (hp : Heap) (s1 s2 s3 : Src) : Heap := (((hp.push s1.obj).push s2.obj).push s3.obj).push { cls := .type "tuple", data := .seq #[.ref (hp).objs.size, .ref ((hp.push s1.obj)).objs.size, .ref (((hp.push s1.obj).push s2.obj)).objs.size] }
def zB3 (hp : Heap) (s1 s2 s3 : Src) : Heap := (zA3 hp s1 s2 s3).push { cls := .type "tuple", data := .seq #[.none, .none, .none] }
def zC3 (hp : Heap) (s1 s2 s3 : Src) : Heap := (zB3 hp s1 s2 s3).push { cls := .type "zip", data := .fields #[.none, .bool false, .bool false, .ref ((((hp.push s1.obj).push s2.obj).push s3.obj)).objs.size, .ref (zA3 hp s1 s2 s3).objs.size] }
theorem mz3 (s1 s2 s3 : Src) : Meets (Builtin.«zip.__new__» ⟨[.type "zip", s1.val, s2.val, s3.val], []⟩) (fun _ R s => s1.ok s.heap ∧ s2.ok s.heap ∧ s3.ok s.heap ∧ R (.ok (.ret (.ref (zB3 s.heap s1 s2 s3).objs.size))) { s with heap := zC3 s.heap s1 s2 s3 }) :=
  .of_wp fun prog w A R s h => by
    obtain ⟨hp, g, d, tk, os⟩ := s
    obtain ⟨o1, o2, o3, h⟩ := h
    have hsub := sub_zip
    have hI1 : ∀ {A : Around} {E : Value → Shared → Prop} {Q : Value → Shared → Prop}, Q (.ref (hp).objs.size) ⟨(hp.push s1.obj), g, d, tk, os⟩ → wpAny (model prog w) A (pyIter s1.val) Q E ⟨hp, g, d, tk, os⟩ := fun q => Src.iter (s := ⟨hp, g, d, tk, os⟩) o1 q
    have hI2 : ∀ {A : Around} {E : Value → Shared → Prop} {Q : Value → Shared → Prop}, Q (.ref ((hp.push s1.obj)).objs.size) ⟨((hp.push s1.obj).push s2.obj), g, d, tk, os⟩ → wpAny (model prog w) A (pyIter s2.val) Q E ⟨(hp.push s1.obj), g, d, tk, os⟩ := fun q => Src.iter (s := ⟨(hp.push s1.obj), g, d, tk, os⟩) (Src.ok_push o2) q
    have hI3 : ∀ {A : Around} {E : Value → Shared → Prop} {Q : Value → Shared → Prop}, Q (.ref (((hp.push s1.obj).push s2.obj)).objs.size) ⟨(((hp.push s1.obj).push s2.obj).push s3.obj), g, d, tk, os⟩ → wpAny (model prog w) A (pyIter s3.val) Q E ⟨((hp.push s1.obj).push s2.obj), g, d, tk, os⟩ := fun q => Src.iter (s := ⟨((hp.push s1.obj).push s2.obj), g, d, tk, os⟩) (Src.ok_push (Src.ok_push o3)) q
    wp_walk using hI1, hI2, hI3
    exact ⟨_, rfl, h⟩
theorem len_z2 (hp : Heap) (s1 s2 : Src) : (zA2 hp s1 s2).objs.size = hp.objs.size + 3 ∧ (zB2 hp s1 s2).objs.size = hp.objs.size + 4 ∧ ((hp.push s1.obj)).objs.size = hp.objs.size + 1 ∧ (((hp.push s1.obj).push s2.obj)).objs.size = hp.objs.size + 2 := by
  simp [zA2, zB2, Heap.size_push]
theorem pi_zip2 {X : Cx} {tl : List Expr} {kk : Nat} {tpos p pos : Pos} {a b : Expr} {ta : TA} (hg : Gl X "zip") (hm : X.mg "zip" = none) (ha : PA X [a, b] ta) (hs : starEach [a, b] X.env = (false, eval a X.env) :: starEach [b] X.env) (hs2 : (backTo pos (starEach [b] X.env)).any (·.1) = false) :
    PI X (.Tuple tl kk tpos) (.Call (.Name "zip" p) [a, b] [] pos) (fun σ H R => ta σ H fun vs H1 => ∃ v1 v2 k1 k2, vs = [v1, v2] ∧ SeqV k1 X.K H1 v1 ∧ SeqV k2 X.K H1 v2 ∧ ∀ s1 s2 : Src, s1.isV k1 v1 → s2.isV k2 v2 → R (Itz2 X.K s1 s2) H1) := by
  intro pins s σ H R I h
  refine Call_ (ld_blt I hg hm boot_zip (PyProof.Rows.callWith_type1 (thn (ha pos pins s σ H _ I h) fun us s' ⟨vs, H1, I1, r1, q1⟩ => ?_) hs hs2))
  obtain ⟨v1, v2, k1, k2, e, w1, w2, q⟩ := q1
  subst e
  obtain ⟨u1, u2, rfl, r1, r2⟩ : ∃ u1 u2, us = [u1, u2] ∧ RelV v1 u1 ∧ RelV v2 u2 := by
    cases r1 with | cons g1 r2 => cases r2 with | cons g2 r3 => cases r3; exact ⟨_, _, rfl, g1, g2⟩
  obtain ⟨s1, iv1, rfl, ok1, lt1⟩ := w1.src I1 r1
  obtain ⟨s2, iv2, rfl, ok2, lt2⟩ := w2.src I1 r2
  refine callType_new F.called_zip (by decide) (F.typeCall_zip_2 _ _) (F.newCall_zip_2 _ _) (fun obj => F.args_object_init_3 obj _ _) F.entry_zip_new (mz2 s1 s2) ⟨ok1, ok2, ?_⟩
  obtain ⟨zA, zB, z1, z2⟩ := len_z2 s'.heap s1 s2
  have gz : (zC2 s'.heap s1 s2).get? (zB2 s'.heap s1 s2).objs.size = some _ := Heap.get?_push_size _ rfl
  have gO : (zC2 s'.heap s1 s2).get? (zA2 s'.heap s1 s2).objs.size = some _ := Heap.get?_push_of_some _ (Heap.get?_push_size _ rfl)
  have gI : (zC2 s'.heap s1 s2).get? (((s'.heap.push s1.obj).push s2.obj)).objs.size = some _ := Heap.get?_push_of_some _ (Heap.get?_push_of_some _ (Heap.get?_push_size _ rfl))
  have g1 : (zC2 s'.heap s1 s2).get? (s'.heap).objs.size = some s1.obj := (Heap.get?_push_of_some _ (Heap.get?_push_of_some _ (Heap.get?_push_of_some _ (Heap.get?_push_of_some _ (Heap.get?_push_size _ (by cases s1 <;> rfl))))))
  have g2 : (zC2 s'.heap s1 s2).get? ((s'.heap.push s1.obj)).objs.size = some s2.obj := (Heap.get?_push_of_some _ (Heap.get?_push_of_some _ (Heap.get?_push_of_some _ (Heap.get?_push_size _ (by cases s2 <;> rfl)))))
  have kk' : ∀ c o, s'.heap.get? c = some o → (zC2 s'.heap s1 s2).get? c = some o := fun c o x => (Heap.get?_push_of_some _ (Heap.get?_push_of_some _ (Heap.get?_push_of_some _ (Heap.get?_push_of_some _ (Heap.get?_push_of_some _ x)))))
  show _ ∧ _
  rw [zB, zA, z2] at gz
  rw [zA] at gO
  rw [z2, z1] at gI
  rw [z1] at g2
  rw [zB]
  refine ⟨⟨_, gz, rfl⟩, wpAny_pyIter_zip gz ?_⟩
  have L : ZA2 (s'.heap.objs.size + 4) (s'.heap.objs.size + 2) (s'.heap.objs.size + 3) (s'.heap.objs.size) (s'.heap.objs.size + 1) (s1.fp (s'.heap.objs.size)) (s2.fp (s'.heap.objs.size + 1)) := by
    have ne : ∀ i j : Nat, i ≠ j → s'.heap.objs.size + i ≠ s'.heap.objs.size + j := fun i j h z => h (Nat.add_left_cancel z)
    constructor
    all_goals first | exact ne _ _ (by decide) | exact ne 0 _ (by decide) | exact ne _ 0 (by decide) | exact Src.not_fp lt1 (Nat.le_add_right _ _) (by first | exact ne _ _ (by decide) | exact ne 0 _ (by decide) | exact ne _ 0 (by decide)) | exact Src.not_fp lt1 (Nat.le_refl _) (ne 0 _ (by decide)) | exact Src.not_fp lt2 (Nat.le_add_right _ _) (by first | exact ne _ _ (by decide) | exact ne 0 _ (by decide) | exact ne _ 0 (by decide)) | exact Src.not_fp lt2 (Nat.le_refl _) (ne 0 _ (by decide))
  refine ⟨s'.heap.objs.size + 4, [s'.heap.objs.size + 4, s'.heap.objs.size + 2, s'.heap.objs.size + 3, s'.heap.objs.size, s'.heap.objs.size + 1], _, _, H1, rfl, I1.kept (t' := s'.toks) kk', turn_z2 (s1 := s1) (s2 := s2) L (Src.lt_mono lt1 (by first | exact Nat.le_refl _ | exact Nat.le_add_right _ _)) (Src.lt_mono lt2 (by first | exact Nat.le_refl _ | exact Nat.le_add_right _ _)), ⟨gz, gI, ⟨_, _, gO⟩, Src.it_new g1, Src.it_new g2⟩, fun b hb => ?_, q s1 s2 iv1 iv2⟩
  have hb' : s'.heap.objs.size ≤ b := by
    simp only [List.mem_cons, List.not_mem_nil, or_false] at hb
    rcases hb with h | h | h | h | h <;> (rw [h]; first | exact Nat.le_refl _ | exact Nat.le_add_right _ _)
  exact I1.fpOk hb' (I1.hok.fresh hb')
theorem len_z3 (hp : Heap) (s1 s2 s3 : Src) : (zA3 hp s1 s2 s3).objs.size = hp.objs.size + 4 ∧ (zB3 hp s1 s2 s3).objs.size = hp.objs.size + 5 ∧ ((hp.push s1.obj)).objs.size = hp.objs.size + 1 ∧ (((hp.push s1.obj).push s2.obj)).objs.size = hp.objs.size + 2 ∧ ((((hp.push s1.obj).push s2.obj).push s3.obj)).objs.size = hp.objs.size + 3 := by
  simp [zA3, zB3, Heap.size_push]
theorem pi_zip3 {X : Cx} {tl : List Expr} {kk : Nat} {tpos p pos : Pos} {a b c : Expr} {ta : TA} (hg : Gl X "zip") (hm : X.mg "zip" = none) (ha : PA X [a, b, c] ta) (hs : starEach [a, b, c] X.env = (false, eval a X.env) :: starEach [b, c] X.env) (hs2 : (backTo pos (starEach [b, c] X.env)).any (·.1) = false) :
    PI X (.Tuple tl kk tpos) (.Call (.Name "zip" p) [a, b, c] [] pos) (fun σ H R => ta σ H fun vs H1 => ∃ v1 v2 v3 k1 k2 k3, vs = [v1, v2, v3] ∧ SeqV k1 X.K H1 v1 ∧ SeqV k2 X.K H1 v2 ∧ SeqV k3 X.K H1 v3 ∧ ∀ s1 s2 s3 : Src, s1.isV k1 v1 → s2.isV k2 v2 → s3.isV k3 v3 → R (Itz3 X.K s1 s2 s3) H1) := by
  intro pins s σ H R I h
  refine Call_ (ld_blt I hg hm boot_zip (PyProof.Rows.callWith_type1 (thn (ha pos pins s σ H _ I h) fun us s' ⟨vs, H1, I1, r1, q1⟩ => ?_) hs hs2))
  obtain ⟨v1, v2, v3, k1, k2, k3, e, w1, w2, w3, q⟩ := q1
  subst e
  obtain ⟨u1, u2, u3, rfl, r1, r2, r3⟩ : ∃ u1 u2 u3, us = [u1, u2, u3] ∧ RelV v1 u1 ∧ RelV v2 u2 ∧ RelV v3 u3 := by
    cases r1 with | cons g1 r2 => cases r2 with | cons g2 r3 => cases r3 with | cons g3 r4 => cases r4; exact ⟨_, _, _, rfl, g1, g2, g3⟩
  obtain ⟨s1, iv1, rfl, ok1, lt1⟩ := w1.src I1 r1
  obtain ⟨s2, iv2, rfl, ok2, lt2⟩ := w2.src I1 r2
  obtain ⟨s3, iv3, rfl, ok3, lt3⟩ := w3.src I1 r3
  refine callType_new F.called_zip (by decide) (tc_zip3 _ _ _) (nc_zip3 _ _ _) (fun obj => ai_zip4 obj _ _ _) F.entry_zip_new (mz3 s1 s2 s3) ⟨ok1, ok2, ok3, ?_⟩
  obtain ⟨zA, zB, z1, z2, z3⟩ := len_z3 s'.heap s1 s2 s3
  have gz : (zC3 s'.heap s1 s2 s3).get? (zB3 s'.heap s1 s2 s3).objs.size = some _ := Heap.get?_push_size _ rfl
  have gO : (zC3 s'.heap s1 s2 s3).get? (zA3 s'.heap s1 s2 s3).objs.size = some _ := Heap.get?_push_of_some _ (Heap.get?_push_size _ rfl)
  have gI : (zC3 s'.heap s1 s2 s3).get? ((((s'.heap.push s1.obj).push s2.obj).push s3.obj)).objs.size = some _ := Heap.get?_push_of_some _ (Heap.get?_push_of_some _ (Heap.get?_push_size _ rfl))
  have g1 : (zC3 s'.heap s1 s2 s3).get? (s'.heap).objs.size = some s1.obj := (Heap.get?_push_of_some _ (Heap.get?_push_of_some _ (Heap.get?_push_of_some _ (Heap.get?_push_of_some _ (Heap.get?_push_of_some _ (Heap.get?_push_size _ (by cases s1 <;> rfl)))))))
  have g2 : (zC3 s'.heap s1 s2 s3).get? ((s'.heap.push s1.obj)).objs.size = some s2.obj := (Heap.get?_push_of_some _ (Heap.get?_push_of_some _ (Heap.get?_push_of_some _ (Heap.get?_push_of_some _ (Heap.get?_push_size _ (by cases s2 <;> rfl))))))
  have g3 : (zC3 s'.heap s1 s2 s3).get? (((s'.heap.push s1.obj).push s2.obj)).objs.size = some s3.obj := (Heap.get?_push_of_some _ (Heap.get?_push_of_some _ (Heap.get?_push_of_some _ (Heap.get?_push_size _ (by cases s3 <;> rfl)))))
  have kk' : ∀ c o, s'.heap.get? c = some o → (zC3 s'.heap s1 s2 s3).get? c = some o := fun c o x => (Heap.get?_push_of_some _ (Heap.get?_push_of_some _ (Heap.get?_push_of_some _ (Heap.get?_push_of_some _ (Heap.get?_push_of_some _ (Heap.get?_push_of_some _ x))))))
  show _ ∧ _
  rw [zB, zA, z3] at gz
  rw [zA] at gO
  rw [z3, z1, z2] at gI
  rw [z1] at g2
  rw [z2] at g3
  rw [zB]
  refine ⟨⟨_, gz, rfl⟩, wpAny_pyIter_zip gz ?_⟩
  have L : ZA3 (s'.heap.objs.size + 5) (s'.heap.objs.size + 3) (s'.heap.objs.size + 4) (s'.heap.objs.size) (s'.heap.objs.size + 1) (s'.heap.objs.size + 2) (s1.fp (s'.heap.objs.size)) (s2.fp (s'.heap.objs.size + 1)) (s3.fp (s'.heap.objs.size + 2)) := by
    have ne : ∀ i j : Nat, i ≠ j → s'.heap.objs.size + i ≠ s'.heap.objs.size + j := fun i j h z => h (Nat.add_left_cancel z)
    constructor
    all_goals first | exact ne _ _ (by decide) | exact ne 0 _ (by decide) | exact ne _ 0 (by decide) | exact Src.not_fp lt1 (Nat.le_add_right _ _) (by first | exact ne _ _ (by decide) | exact ne 0 _ (by decide) | exact ne _ 0 (by decide)) | exact Src.not_fp lt1 (Nat.le_refl _) (ne 0 _ (by decide)) | exact Src.not_fp lt2 (Nat.le_add_right _ _) (by first | exact ne _ _ (by decide) | exact ne 0 _ (by decide) | exact ne _ 0 (by decide)) | exact Src.not_fp lt2 (Nat.le_refl _) (ne 0 _ (by decide)) | exact Src.not_fp lt3 (Nat.le_add_right _ _) (by first | exact ne _ _ (by decide) | exact ne 0 _ (by decide) | exact ne _ 0 (by decide)) | exact Src.not_fp lt3 (Nat.le_refl _) (ne 0 _ (by decide))
  refine ⟨s'.heap.objs.size + 5, [s'.heap.objs.size + 5, s'.heap.objs.size + 3, s'.heap.objs.size + 4, s'.heap.objs.size, s'.heap.objs.size + 1, s'.heap.objs.size + 2], _, _, H1, rfl, I1.kept (t' := s'.toks) kk', turn_z3 (s1 := s1) (s2 := s2) (s3 := s3) L (Src.lt_mono lt1 (by first | exact Nat.le_refl _ | exact Nat.le_add_right _ _)) (Src.lt_mono lt2 (by first | exact Nat.le_refl _ | exact Nat.le_add_right _ _)) (Src.lt_mono lt3 (by first | exact Nat.le_refl _ | exact Nat.le_add_right _ _)), ⟨gz, gI, ⟨_, _, _, gO⟩, Src.it_new g1, Src.it_new g2, Src.it_new g3⟩, fun b hb => ?_, q s1 s2 s3 iv1 iv2 iv3⟩
  have hb' : s'.heap.objs.size ≤ b := by
    simp only [List.mem_cons, List.not_mem_nil, or_false] at hb
    rcases hb with h | h | h | h | h | h <;> (rw [h]; first | exact Nat.le_refl _ | exact Nat.le_add_right _ _)
  exact I1.fpOk hb' (I1.hok.fresh hb')
end L2

set_option Elab.async false
set_option linter.all false
set_option maxRecDepth 100000
set_option maxHeartbeats 4000000
namespace L2
open PySem PySem.Spec PyProof.Rows PySem.W
theorem sq_ex {d : Dt} {c : Nat} (h : sqM d = .ex c) : False := by cases d <;> cases h
theorem itd_z2 {K : PySem.W.Frag} {A : List Addr} {s1 s2 : Src} {d1 d2 : List Dt} {xs1 xs2 : List V} {H1 : Hp} (h1 : s1.vals K (hid H1 A) xs1) (r1 : Reps K (hid H1 A) d1 xs1) (z1 : sms d1) (l1 : d1.length ≤ 10000) (h2 : s2.vals K (hid H1 A) xs2) (r2 : Reps K (hid H1 A) d2 xs2) (z2 : sms d2) (l2 : d2.length ≤ 10000) : ItD K A (Itz2 K s1 s2) (zipD d1 d2) H1 := by
  have e1 := r1.length
  have e2 := r2.length
  have hz : (zipD d1 d2).length = min (d1.length) d2.length := by simp [zipD]
  refine ⟨fun i H hi s => ⟨xs1, xs2, Src.mono h1 s, Src.mono h2 s, by omega⟩, fun H s => ⟨xs1, xs2, Src.mono h1 s, Src.mono h2 s, by omega⟩, fun i H x H' A' hi L s y => ?_, sms_of fun d hd => ?_, by omega⟩
  · obtain ⟨T, x1, x2, rfl, hT, rfl, y1, y2⟩ := y
    have g1 := y1 xs1 (Src.mono h1 (s.trans hid_same))
    obtain ⟨c1, k1, q1⟩ := r1.get g1
    have g2 := y2 xs2 (Src.mono h2 (s.trans hid_same))
    obtain ⟨c2, k2, q2⟩ := r2.get g2
    have s2 : Same H (upd H T (.tup [x1, x2])) := .upd hT
    refine ⟨s2, .tup [c1, c2], ?_, rep_tup (hid_new L hT) (.cons ((q1.mono s).mono (s2.hid _)) (.cons ((q2.mono s).mono (s2.hid _)) .nil))⟩
    simp [zipD, List.getElem?_zip_eq_some, k1, k2]
  · obtain ⟨p, hp, rfl⟩ := List.mem_map.mp hd
    have m1 := List.of_mem_zip hp
    exact ⟨by show 2 ≤ 10000; decide, sms_mem z1 m1.1, sms_mem z2 m1.2, trivial⟩
theorem sq_small {d : Dt} {ds : List Dt} (h : sqM d = .ok ds) (z : sm d) : sms ds ∧ ds.length ≤ 10000 := by
  cases d with
  | lst l => cases h; exact ⟨z.2, z.1⟩
  | str l => cases h; exact ⟨sms_sgD l, by rw [sgD, List.length_map]; exact z⟩
  | _ => cases h
theorem iv_zip2 {X : Cx} {cls : Nat → Addr} {E : XK} {tl : List Expr} {kk : Nat} {tpos p pos : Pos} {a b : Expr} {fs : Rho → M (List Dt)} (hg : Gl X "zip") (hm : X.mg "zip" = none) (ha : Av X cls E [a, b] fs) (hs : starEach [a, b] X.env = (false, eval a X.env) :: starEach [b] X.env := by rfl) (hs2 : (backTo pos (starEach [b] X.env)).any (·.1) = false := by rfl) :
    Iv X cls E (.Tuple tl kk tpos) (.Call (.Name "zip" p) [a, b] [] pos) (iBy zip2N fs) := (pi_zip2 hg hm ha hs hs2).imp fun σ H R ⟨O, A, ρ, F, q⟩ => by
  refine ⟨O, A, ρ, F, Rg.bind q fun ds hds q1 => ?_⟩
  clear hds
  intro vs H1 s1 r1 z1
  unfold zip2N at q1
  split at q1
  · rename_i e1 e2
    obtain ⟨v1, v2, rfl, t1, t2⟩ := reps2 r1
    cases g1 : sqM e1 with
    | ex c => exact (sq_ex g1).elim
    | bad => rw [g1] at q1; exact (show False from q1).elim
    | ok d1 =>
      rw [g1] at q1
      simp only [bd_ok] at q1
      cases g2 : sqM e2 with
      | ex c => exact (sq_ex g2).elim
      | bad => rw [g2] at q1; exact (show False from q1).elim
      | ok d2 =>
        rw [g2] at q1
        simp only [bd_ok] at q1
        obtain ⟨k1, a1, b1⟩ := seq_vals g1 t1
        obtain ⟨sm1, ln1⟩ := sq_small g1 z1.1
        have aa1 : SeqV k1 X.K H1 v1 := a1.mono hid_same
        obtain ⟨k2, a2, b2⟩ := seq_vals g2 t2
        obtain ⟨sm2, ln2⟩ := sq_small g2 z1.2.1
        have aa2 : SeqV k2 X.K H1 v2 := a2.mono hid_same
        refine ⟨v1, v2, k1, k2, rfl, aa1, aa2, fun c1 c2 i1 i2 => ?_⟩
        obtain ⟨xs1, m1, n1⟩ := b1 c1 i1
        obtain ⟨xs2, m2, n2⟩ := b2 c2 i2
        exact q1 _ H1 s1 (itd_z2 m1 n1 sm1 ln1 m2 n2 sm2 ln2)
  · exact (show False from q1).elim
theorem itd_z3 {K : PySem.W.Frag} {A : List Addr} {s1 s2 s3 : Src} {d1 d2 d3 : List Dt} {xs1 xs2 xs3 : List V} {H1 : Hp} (h1 : s1.vals K (hid H1 A) xs1) (r1 : Reps K (hid H1 A) d1 xs1) (z1 : sms d1) (l1 : d1.length ≤ 10000) (h2 : s2.vals K (hid H1 A) xs2) (r2 : Reps K (hid H1 A) d2 xs2) (z2 : sms d2) (l2 : d2.length ≤ 10000) (h3 : s3.vals K (hid H1 A) xs3) (r3 : Reps K (hid H1 A) d3 xs3) (z3 : sms d3) (l3 : d3.length ≤ 10000) : ItD K A (Itz3 K s1 s2 s3) (zip3D d1 d2 d3) H1 := by
  have e1 := r1.length
  have e2 := r2.length
  have e3 := r3.length
  have hz : (zip3D d1 d2 d3).length = min (min (d1.length) d2.length) d3.length := by simp [zip3D, Nat.min_assoc]
  refine ⟨fun i H hi s => ⟨xs1, xs2, xs3, Src.mono h1 s, Src.mono h2 s, Src.mono h3 s, by omega⟩, fun H s => ⟨xs1, xs2, xs3, Src.mono h1 s, Src.mono h2 s, Src.mono h3 s, by omega⟩, fun i H x H' A' hi L s y => ?_, sms_of fun d hd => ?_, by omega⟩
  · obtain ⟨T, x1, x2, x3, rfl, hT, rfl, y1, y2, y3⟩ := y
    have g1 := y1 xs1 (Src.mono h1 (s.trans hid_same))
    obtain ⟨c1, k1, q1⟩ := r1.get g1
    have g2 := y2 xs2 (Src.mono h2 (s.trans hid_same))
    obtain ⟨c2, k2, q2⟩ := r2.get g2
    have g3 := y3 xs3 (Src.mono h3 (s.trans hid_same))
    obtain ⟨c3, k3, q3⟩ := r3.get g3
    have s2 : Same H (upd H T (.tup [x1, x2, x3])) := .upd hT
    refine ⟨s2, .tup [c1, c2, c3], ?_, rep_tup (hid_new L hT) (.cons ((q1.mono s).mono (s2.hid _)) (.cons ((q2.mono s).mono (s2.hid _)) (.cons ((q3.mono s).mono (s2.hid _)) .nil)))⟩
    simp [zip3D, List.getElem?_zip_eq_some, k1, k2, k3]
    exact ⟨_, _, _, ⟨rfl, rfl, rfl⟩, rfl, rfl, rfl⟩
  · obtain ⟨p, hp, rfl⟩ := List.mem_map.mp hd
    have m1 := List.of_mem_zip hp
    have m2 := List.of_mem_zip m1.2
    exact ⟨by show 3 ≤ 10000; decide, sms_mem z1 m1.1, sms_mem z2 m2.1, sms_mem z3 m2.2, trivial⟩
theorem iv_zip3 {X : Cx} {cls : Nat → Addr} {E : XK} {tl : List Expr} {kk : Nat} {tpos p pos : Pos} {a b c : Expr} {fs : Rho → M (List Dt)} (hg : Gl X "zip") (hm : X.mg "zip" = none) (ha : Av X cls E [a, b, c] fs) (hs : starEach [a, b, c] X.env = (false, eval a X.env) :: starEach [b, c] X.env := by rfl) (hs2 : (backTo pos (starEach [b, c] X.env)).any (·.1) = false := by rfl) :
    Iv X cls E (.Tuple tl kk tpos) (.Call (.Name "zip" p) [a, b, c] [] pos) (iBy zip3N fs) := (pi_zip3 hg hm ha hs hs2).imp fun σ H R ⟨O, A, ρ, F, q⟩ => by
  refine ⟨O, A, ρ, F, Rg.bind q fun ds hds q1 => ?_⟩
  clear hds
  intro vs H1 s1 r1 z1
  unfold zip3N at q1
  split at q1
  · rename_i e1 e2 e3
    obtain ⟨v1, v2, v3, rfl, t1, t2, t3⟩ := reps3 r1
    cases g1 : sqM e1 with
    | ex c => exact (sq_ex g1).elim
    | bad => rw [g1] at q1; exact (show False from q1).elim
    | ok d1 =>
      rw [g1] at q1
      simp only [bd_ok] at q1
      cases g2 : sqM e2 with
      | ex c => exact (sq_ex g2).elim
      | bad => rw [g2] at q1; exact (show False from q1).elim
      | ok d2 =>
        rw [g2] at q1
        simp only [bd_ok] at q1
        cases g3 : sqM e3 with
        | ex c => exact (sq_ex g3).elim
        | bad => rw [g3] at q1; exact (show False from q1).elim
        | ok d3 =>
          rw [g3] at q1
          simp only [bd_ok] at q1
          obtain ⟨k1, a1, b1⟩ := seq_vals g1 t1
          obtain ⟨sm1, ln1⟩ := sq_small g1 z1.1
          have aa1 : SeqV k1 X.K H1 v1 := a1.mono hid_same
          obtain ⟨k2, a2, b2⟩ := seq_vals g2 t2
          obtain ⟨sm2, ln2⟩ := sq_small g2 z1.2.1
          have aa2 : SeqV k2 X.K H1 v2 := a2.mono hid_same
          obtain ⟨k3, a3, b3⟩ := seq_vals g3 t3
          obtain ⟨sm3, ln3⟩ := sq_small g3 z1.2.2.1
          have aa3 : SeqV k3 X.K H1 v3 := a3.mono hid_same
          refine ⟨v1, v2, v3, k1, k2, k3, rfl, aa1, aa2, aa3, fun c1 c2 c3 i1 i2 i3 => ?_⟩
          obtain ⟨xs1, m1, n1⟩ := b1 c1 i1
          obtain ⟨xs2, m2, n2⟩ := b2 c2 i2
          obtain ⟨xs3, m3, n3⟩ := b3 c3 i3
          exact q1 _ H1 s1 (itd_z3 m1 n1 sm1 ln1 m2 n2 sm2 ln2 m3 n3 sm3 ln3)
  · exact (show False from q1).elim
theorem enumD_get {ds : List Dt} {i : Nat} {d : Dt} (h : ds[i]? = some d) : (enumD ds)[i]? = some (.tup [.int (i : Nat), d]) := by
  have hi : i < ds.length := (List.getElem?_eq_some_iff.mp h).1
  unfold enumD
  rw [List.getElem?_zipWith, List.getElem?_range hi, h]
theorem enumD_len (ds : List Dt) : (enumD ds).length = ds.length := by simp [enumD]
theorem enumD_sms {ds : List Dt} (z : sms ds) : sms (enumD ds) := sms_of fun d hd => by
  obtain ⟨i, hi⟩ := List.getElem?_of_mem hd
  have hlt : i < ds.length := by
    have := (List.getElem?_eq_some_iff.mp hi).1
    rwa [enumD_len] at this
  have e := enumD_get (ds := ds) (i := i) (d := ds[i]) (by simp [hlt])
  rw [hi] at e
  cases e
  exact ⟨by show 2 ≤ 10000; decide, trivial, sms_mem z (List.getElem_mem hlt), trivial⟩
theorem iv_enum {X : Cx} {cls : Nat → Addr} {E : XK} {tl : List Expr} {kk : Nat} {tpos p pos : Pos} {a : Expr} {fs : Rho → M (List Dt)} (hg : Gl X "enumerate") (hm : X.mg "enumerate" = none) (ha : Av X cls E [a] fs) (hs : starEach [a] X.env = [(false, eval a X.env)] := by rfl) :
    Iv X cls E (.Tuple tl kk tpos) (.Call (.Name "enumerate" p) [a] [] pos) (iBy enumN fs) := by
  refine ((pi_enum hg hm ha hs).or (pi_enumS hg hm ha hs)).imp fun σ H R ⟨O, A, ρ, F, q⟩ => ?_
  unfold iBy at q
  cases hm' : fs ρ with
  | bad => rw [hm'] at q; exact (show False from q).elim
  | ex c => refine .inl ⟨O, A, ρ, F, ?_⟩; rw [hm'] at q ⊢; exact q
  | ok ds =>
    rw [hm'] at q
    simp only [bd_ok] at q
    unfold enumN at q
    split at q
    · rename_i e
      cases e with
      | lst l =>
        refine .inl ⟨O, A, ρ, F, ?_⟩
        rw [hm']
        intro vs H1 s1 r1 z1
        obtain ⟨v, rfl, t⟩ := reps1 r1
        obtain ⟨p, xs, rfl, h1, h2⟩ := repL t
        have hl := h2.length
        refine ⟨p, xs, rfl, hid_same.seq h1, q _ H1 s1 ⟨fun i H hi s => ⟨xs, s.seq h1, by rw [enumD_len] at hi; omega⟩, fun H s => ⟨xs, s.seq h1, by rw [enumD_len]; exact hl⟩, fun i H x H' A' hi L s y => ?_, enumD_sms z1.1.2, by rw [enumD_len]; exact z1.1.1⟩⟩
        obtain ⟨T, w, rfl, hT, rfl, hw⟩ := y
        obtain ⟨d, hd, rd⟩ := h2.get (hw xs ((s.trans hid_same).seq h1))
        have s2 : Same H (upd H T (.tup [.int (i : Nat), w])) := .upd hT
        exact ⟨s2, _, enumD_get hd, rep_tup (hid_new L hT) (.cons rep_int (.cons ((rd.mono s).mono (s2.hid _)) .nil))⟩
      | str l =>
        refine .inr ⟨O, A, ρ, F, ?_⟩
        rw [hm']
        intro vs H1 s1 r1 z1
        obtain ⟨v, rfl, t⟩ := reps1 r1
        have hl : (sgD l).length = l.length := by simp [sgD]
        refine ⟨l, by rw [repS t], q _ H1 s1 ⟨fun i H hi s => by show i < l.length; rw [enumD_len] at hi; omega, fun H s => by show _ = l.length; rw [enumD_len]; exact hl, fun i H x H' A' hi L s y => ?_, enumD_sms (sms_sgD l), by rw [enumD_len, hl]; exact z1.1⟩⟩
        obtain ⟨T, c, rfl, hT, rfl, hc⟩ := y
        have s2 : Same H (upd H T (.tup [.int (i : Nat), S [c]])) := .upd hT
        exact ⟨s2, _, enumD_get (d := .str [c]) (by simp [sgD, hc]), rep_tup (hid_new L hT) (.cons rep_int (.cons rep_str .nil))⟩
      | _ => exact (show False from q).elim
    · exact (show False from q).elim

end L2

set_option Elab.async false
set_option linter.all false
set_option maxRecDepth 100000
set_option maxHeartbeats 4000000
namespace L2
open PySem PySem.Spec PyProof.Rows PySem.W
section
variable {X : Cx} {cls : Nat → Addr} {E : XK} {body : List Stmt} {B : SM}
end
end L2

set_option Elab.async false
set_option linter.all false
set_option maxRecDepth 100000
set_option maxHeartbeats 4000000
namespace L2
open PySem PySem.Spec
theorem rvOwner : Manifest.owners.lookup (String.ofList ['d', 'e', 's', 'r', 'e', 'v', 'e', 'r'].reverse)
    = some Manifest.sig_reversed := by kernel_rfl
theorem rvNext : Slot "reversed" "__next__" "reversed.__next__" := by
  refine .of (owner := "reversed") (n := "__next__") ?_ ?_ ?_ ?_ ?_ ?_
  · rw [typeLookup_type, builtinLookup_eq_fast]
    kernel_rfl
  · decide +kernel
  · decide +kernel
  · decide +kernel
  · first
    | exact .inl (by decide +kernel)
    | exact .inr (by decide +kernel)
  · rw [isSubtype_type]
    kernel_rfl
theorem rvIter : Slot "reversed" "__iter__" "reversed.__iter__" := by
  refine .of (owner := "reversed") (n := "__iter__") ?_ ?_ ?_ ?_ ?_ ?_
  · rw [typeLookup_type, builtinLookup_eq_fast]
    kernel_rfl
  · decide +kernel
  · decide +kernel
  · decide +kernel
  · first
    | exact .inl (by decide +kernel)
    | exact .inr (by decide +kernel)
  · rw [isSubtype_type]
    kernel_rfl
theorem rvInit : Slot "reversed" "__init__" "object.__init__" := by
  refine .of (owner := "object") (n := "__init__") ?_ ?_ ?_ ?_ ?_ ?_
  · rw [typeLookup_type, builtinLookup_eq_fast]
    kernel_rfl
  · decide +kernel
  · decide +kernel
  · decide +kernel
  · first
    | exact .inl (by decide +kernel)
    | exact .inr (by decide +kernel)
  · rw [isSubtype_type]
    kernel_rfl
theorem rvNextE : entryFor table "reversed.__next__" = some Builtin.«reversed.__next__» := by
  apply entryFor_of_tree
  kernel_rfl
theorem rvNewE : entryFor table "reversed.__new__" = some Builtin.«reversed.__new__» := by
  apply entryFor_of_tree
  kernel_rfl
theorem rvIterE : entryFor table "reversed.__iter__" = some Builtin.«dict_keyiterator.__iter__» := by
  apply entryFor_alias (id' := "dict_keyiterator.__iter__")
  · kernel_rfl
  · first
    | rfl
    | decide +kernel
    | (unfold String.splitOn; simp +decide [String.splitOnAux])
  · decide +kernel
  · kernel_rfl
theorem rvNextA (a : Value) : argsOk "reversed.__next__" ⟨[a], []⟩ := by
  unfold argsOk
  rw [signature?_of (id := "reversed.__next__") (n := ['_', '_', 't', 'x', 'e', 'n', '_', '_']) (o := ['d', 'e', 's', 'r', 'e', 'v', 'e', 'r']) (by kernel_rfl) rvOwner]
  kernel_rfl
theorem rvIterA (a : Value) : argsOk "reversed.__iter__" ⟨[a], []⟩ := by
  unfold argsOk
  rw [signature?_of (id := "reversed.__iter__") (n := ['_', '_', 'r', 'e', 't', 'i', '_', '_']) (o := ['d', 'e', 's', 'r', 'e', 'v', 'e', 'r']) (by kernel_rfl) rvOwner]
  kernel_rfl
theorem rvMro : mroOf (.type "reversed") = pure [.type "reversed", .type "object"] := by
  rw [mroOf_type]
  kernel_rfl
theorem rvLook : typeLookup (.type "reversed") "__new__" = pure (some (.builtin "reversed.__new__")) := by
  rw [typeLookup_type, builtinLookup_eq_fast]
  kernel_rfl
theorem rvCalled : TypeCalled "reversed" "reversed.__new__" "object.__init__" := by
  refine ⟨?_, ?_, ⟨_, _, rvMro⟩, madeBy_type rvMro rvLook ?_, ?_, ?_, rvInit⟩
  · decide +kernel
  · decide +kernel
  · decide +kernel
  · decide +kernel
  · rw [isSubtype_type]
    kernel_rfl
theorem rvTC (a : Value) : checkTypeCall "reversed" ⟨[a], []⟩ = pure () := by kernel_rfl
theorem rvNC (a : Value) : checkBuiltinCall "reversed.__new__" ⟨[.type "reversed", a], []⟩ = pure () := by kernel_rfl
def rvObj (l : List Nat) (t : Tok) (i : Int) : Obj := { cls := .type "reversed", data := .fields #[.str ⟨l.toArray⟩ t, rawInt i] }
theorem rvSub : isSubtype (.type "reversed") (.type "reversed") = pure true := by
  rw [isSubtype_type]
  kernel_rfl
theorem rvNoR : typeLookup (.type "str") (Str.ofString "__reversed__") = pure none := by
  rw [typeLookup_type, builtinLookup_eq_fast]
  kernel_rfl
theorem rvDict : isSubtype (.type "str") (.type "dict") = pure false := by
  rw [isSubtype_type]
  kernel_rfl
theorem rvGet : typeLookup (.type "str") (Str.ofString "__getitem__") = pure (some (.builtin "str.__getitem__")) := by
  rw [typeLookup_type, builtinLookup_eq_fast]
  kernel_rfl
theorem mRev (l : List Nat) (t : Tok) : Meets (Builtin.«reversed.__new__» ⟨[.type "reversed", .str ⟨l.toArray⟩ t], []⟩) (fun _ R s => l.length ≤ 100000 ∧ R (.ok (.ret (.ref s.heap.objs.size))) { s with heap := s.heap.push (rvObj l t ((l.length : Int) - 1)), toks := s.toks + 1 + 1 }) :=
  .of_wp fun prog w A R s h => by
    obtain ⟨hp, g, d, tk, os⟩ := s
    obtain ⟨hl, h⟩ := h
    have hsub := rvSub
    wp_walk
    refine wpAny_of_eq rvNoR ?_
    dsimp only
    refine wpAny_bind ?_
    show wpAny _ _ (isInstance (.str ⟨l.toArray⟩ t) (.type "dict") >>= _) _ _ _
    wp_walk
    refine wpAny_of_eq rvDict ?_
    rw [if_neg Bool.false_ne_true]
    wp_walk
    refine wpAny_of_eq rvGet ?_
    try dsimp only
    rw [if_pos (by decide +kernel)]
    refine wpAny_pure ?_
    rw [if_neg (by decide)]
    refine wpAny_bind (PyProof.Rows.len_str (by show ¬ ((l.toArray.size : Nat) : Int) ≥ 2 ^ 63; simp; omega) ?_)
    wp_walk
    refine ⟨_, rfl, ?_⟩
    have hz : (Str.length ⟨l.toArray⟩) = l.length := by simp [Str.length]
    rw [hz]
    exact h
theorem rvIterOk {prog : Program} {w : World} {A : Around} {E : Value → Shared → Prop} {s : Shared} {a : Addr} {l : List Nat} {t : Tok} {i : Int} {Q : Value → Shared → Prop} (h : s.heap.get? a = some (rvObj l t i)) (q : Q (.ref a) s) : wpAny (model prog w) A (pyIter (.ref a)) Q E s := by
  have hT : s.TypeIs (.ref a) "reversed" := ⟨_, h, rfl⟩
  refine wpAny_pyIter_slot hT rvIter (wpAny_call_entry rvIter hT rvIterE ?_ (rvIterA _))
  show wpAny _ _ (ret (.ref a)) _ _ s
  exact wpAny_pure ⟨_, rfl, "reversed", _, hT, rvNext.lookup, q⟩
theorem rvItem {prog : Program} {w : World} {A : Around} {E : Value → Shared → Prop} {s : Shared} {a : Addr} {l : List Nat} {t : Tok} {i c : Nat} {Q : Option Value → Shared → Prop} (h : s.heap.get? a = some (rvObj l t (i : Nat))) (hc : l[i]? = some c) (hl : l.length ≤ 100000)
    (hQ : ∀ h' u tk, h'.get? a = some (rvObj l t ((i : Int) - 1)) → Heap.SameBut a s.heap h' → Q (some (.str ⟨#[c]⟩ u)) { s with heap := h', toks := tk }) : wpAny (model prog w) A (pyNext (.ref a)) Q E s := by
  have hT : s.TypeIs (.ref a) "reversed" := ⟨_, h, rfl⟩
  unfold pyNext
  refine wpAny_bind (wpAny_attempt (wpAny_callSpecial?_slot (name := Str.ofString "__next__") hT rvNext (wpAny_call_entry rvNext hT rvNextE ?_ (rvNextA _))))
  unfold Builtin.«reversed.__next__»
  refine wpAny_bind (wpAny_of_eq (a := (Value.ref a, [])) rfl ?_)
  dsimp only
  refine wpAny_bind (wpAny_field h rfl (x := .str ⟨l.toArray⟩ t) rfl ?_)
  refine wpAny_bind (wpAny_field h rfl (x := rawInt (i : Int)) rfl ?_)
  show wpAny _ _ (if (i : Int) < 0 then _ else _) _ _ _
  rw [if_neg (by omega)]
  refine wpAny_bind (wpAny_specialOf (typeIs_str s _ t) rvGet ?_)
  rw [if_neg (by decide)]
  refine wpAny_bind (wpAny_mkInt ?_)
  have hi : i < l.length := (List.getElem?_eq_some_iff.mp hc).1
  have hx : (seqIndex? (i : Int) (Str.length ⟨l.toArray⟩)).bind ((⟨l.toArray⟩ : Str).cps[·]?) = some c := by
    have : seqIndex? (i : Int) (Str.length ⟨l.toArray⟩) = some i := by
      unfold seqIndex?
      simp [Str.length]
      omega
    rw [this]
    simpa using hc
  refine wpAny_bind (wpAny_attempt (PyProof.Rows.getItem_str (by simp; omega) hx ?_))
  try dsimp only
  refine wpAny_bind (wpAny_field h rfl (x := rawInt (i : Int)) rfl ?_)
  show wpAny _ _ (setField (.ref a) 1 (rawInt ((i : Int) - 1)) >>= _) _ _ _
  refine wpAny_bind (wpAny_setField_rec h (by simp) fun g0 h0 s0 => wpAny_pure ⟨_, rfl, wpAny_pure ?_⟩)
  exact hQ g0 _ _ h0 s0
theorem rvEnd {prog : Program} {w : World} {A : Around} {E : Value → Shared → Prop} {s : Shared} {a : Addr} {l : List Nat} {t : Tok} {Q : Option Value → Shared → Prop} (hh : A.handled = none) (h : s.heap.get? a = some (rvObj l t (-1)))
    (hQ : ∀ h' tk, Heap.ExtBut a s.heap h' → Q none { s with heap := h', toks := tk }) : wpAny (model prog w) A (pyNext (.ref a)) Q E s := by
  have hT : s.TypeIs (.ref a) "reversed" := ⟨_, h, rfl⟩
  unfold pyNext
  refine wpAny_bind (wpAny_attempt (wpAny_callSpecial?_slot (name := Str.ofString "__next__") hT rvNext (wpAny_call_entry rvNext hT rvNextE ?_ (rvNextA _))))
  unfold Builtin.«reversed.__next__»
  refine wpAny_bind (wpAny_of_eq (a := (Value.ref a, [])) rfl ?_)
  dsimp only
  refine wpAny_bind (wpAny_field h rfl (x := .str ⟨l.toArray⟩ t) rfl ?_)
  refine wpAny_bind (wpAny_field h rfl (x := rawInt (-1)) rfl ?_)
  show wpAny _ _ (if (-1 : Int) < 0 then _ else _) _ _ _
  rw [if_pos (by decide)]
  refine wpAny_bind (wpAny_rule ?_)
  refine wpAny_bind ?_
  show wpAny _ _ (setField (.ref a) 1 (rawInt (-1)) >>= fun _ => setField (.ref a) 0 .none) _ _ _
  refine wpAny_bind (wpAny_setField_rec h (by simp) fun g0 h0 s0 => ?_)
  refine wpAny_setField_rec h0 (by simp) fun g1 h1 s1 => ?_
  refine wpAny_bind ?_
  have hh1 : A.in1.handled = none := hh
  wp_walk using hh1
  simp only [raiseNew]
  refine wpAny_bind (wpAny_handled ?_)
  rw [hh1]
  refine wpAny_bind (wpAny_pure (wpAny_throw ?_))

  refine wpAny_bind (wpAny_isInstance (b := true) (T := "StopIteration") ⟨_, Heap.get?_push_size _ rfl, rfl⟩ isSubtype_stop ?_)
  refine wpAny_pure (hQ _ _ fun b o hb e => ?_)
  refine Heap.get?_push_of_some _ (Heap.get?_push_of_some _ ?_)
  exact s1.extBut b o hb (s0.extBut b o hb e)
end L2

set_option Elab.async false
set_option linter.all false
set_option maxRecDepth 100000
set_option maxHeartbeats 4000000
namespace L2
open PySem PySem.Spec
def rvP (l : List Nat) (i : Nat) (v : Value) : Prop := ∃ c u, l.reverse[i]? = some c ∧ v = .str ⟨#[c]⟩ u
def rvSt (l : List Nat) (t : Tok) (a : Addr) (i : Nat) (h : Heap) : Prop := i ≤ l.length ∧ h.get? a = some (rvObj l t ((l.length : Int) - 1 - (i : Nat)))
theorem rvWalks {prog : Program} {w : World} {A : Around} (hh : A.handled = none) (a : Addr) (l : List Nat) (t : Tok) (hl : l.length ≤ 100000) : Walks prog w A a [a] [a] l.length (rvP l) (rvSt l t a) := by
  refine ⟨fun b hb => hb, fun i h h' st k => ⟨st.1, k a (by simp) _ st.2⟩, fun i s Q E hi st hQ => ?_, fun s Q E st hQ => ?_, fun i s Q E st q => rvIterOk st.2 q⟩
  · obtain ⟨hle, st⟩ := st
    have hlt : l.length - 1 - i < l.length := by omega
    have hcx : l[l.length - 1 - i]? = some l[l.length - 1 - i] := by simp [hlt]
    have e1 : (l.length : Int) - 1 - (i : Nat) = ((l.length - 1 - i : Nat) : Int) := by omega
    have e2 : ((l.length - 1 - i : Nat) : Int) - 1 = (l.length : Int) - 1 - ((i + 1 : Nat) : Nat) := by omega
    rw [e1] at st
    refine rvItem st hcx hl fun h' u tk st' kk => ?_
    rw [e2] at st'
    refine hQ _ h' tk ⟨_, u, ?_, rfl⟩ ⟨by omega, st'⟩ fun b o hb e => kk.extBut b o (by simpa using hb) e
    rw [List.getElem?_reverse hi]
    exact hcx
  · obtain ⟨hle, st⟩ := st
    rw [show (l.length : Int) - 1 - (l.length : Nat) = -1 by omega] at st
    exact rvEnd hh st fun h' tk eb => hQ h' tk fun b o hb e => eb b o (by simpa using hb) e
theorem rvHintS : Slot "reversed" "__length_hint__" "reversed.__length_hint__" := by
  refine .of (owner := "reversed") (n := "__length_hint__") ?_ ?_ ?_ ?_ ?_ ?_
  · rw [typeLookup_type, builtinLookup_eq_fast]
    kernel_rfl
  · decide +kernel
  · decide +kernel
  · decide +kernel
  · first
    | exact .inl (by decide +kernel)
    | exact .inr (by decide +kernel)
  · rw [isSubtype_type]
    kernel_rfl
theorem rvHintE : entryFor table "reversed.__length_hint__" = some Builtin.«reversed.__length_hint__» := by
  apply entryFor_of_tree
  kernel_rfl
theorem rvHintA (a : Value) : argsOk "reversed.__length_hint__" ⟨[a], []⟩ := by
  unfold argsOk
  rw [signature?_of (id := "reversed.__length_hint__") (n := ['_', '_', 't', 'n', 'i', 'h', '_', 'h', 't', 'g', 'n', 'e', 'l', '_', '_']) (o := ['d', 'e', 's', 'r', 'e', 'v', 'e', 'r']) (by kernel_rfl) rvOwner]
  kernel_rfl
theorem rvNoLen : typeLookup (.type "reversed") (Str.ofString "__len__") = pure none := by
  rw [typeLookup_type, builtinLookup_eq_fast]
  kernel_rfl
theorem rvHint {prog : Program} {w : World} {A : Around} {E : Value → Shared → Prop} {s : Shared} {a : Addr} {l : List Nat} {t : Tok} {Q : Value → Shared → Prop} (h : s.heap.get? a = some (rvObj l t ((l.length : Int) - 1))) (hl : l.length ≤ 100000)
    (hQ : ∀ u tk, s.toks ≤ tk → Q (.int (l.length : Nat) u) { s with toks := tk }) : wpAny (model prog w) A (call (.builtin "reversed.__length_hint__") [.ref a]) Q E s := by
  have hT : s.TypeIs (.ref a) "reversed" := ⟨_, h, rfl⟩
  refine wpAny_call_entry rvHintS hT rvHintE ?_ (rvHintA _)
  unfold Builtin.«reversed.__length_hint__»
  refine wpAny_bind (wpAny_of_eq (a := Value.ref a) rfl ?_)
  refine wpAny_bind (wpAny_field h rfl (x := .str ⟨l.toArray⟩ t) rfl ?_)
  rw [if_neg (by intro z; cases z)]
  refine wpAny_bind (PyProof.Rows.len_str (by show ¬ ((l.toArray.size : Nat) : Int) ≥ 2 ^ 63; simp; omega) ?_)
  refine wpAny_bind (wpAny_pure ?_)
  have hz : (Str.length ⟨l.toArray⟩) = l.length := by simp [Str.length]
  rw [hz]
  dsimp only
  refine wpAny_bind (wpAny_field h rfl (x := rawInt ((l.length : Int) - 1)) rfl ?_)
  show wpAny _ _ (if ((l.length : Nat) : Int) < (l.length : Int) - 1 + 1 then _ else retInt ((l.length : Int) - 1 + 1)) _ _ _
  rw [if_neg (by omega), show (l.length : Int) - 1 + 1 = (l.length : Nat) by omega]
  refine wpAny_bind (wpAny_mkInt (wpAny_pure ⟨_, rfl, hQ _ _ ?_⟩))
  show s.toks ≤ s.toks + 1 + 1 + 1
  omega
theorem asI (n : Int) (u : Tok) : asInt? (.int n u) = pure (some n) := rfl
theorem rvSplit : splitId "reversed.__length_hint__" = some ("reversed", "__length_hint__") := by decide +kernel
abbrev nl : Obj := { cls := .type "list", data := .seq ([] : List Value).toArray }
theorem rvCollect {prog : Program} {w : World} {A : Around} {E : Value → Shared → Prop} {s : Shared} {a : Addr} {l : List Nat} {t : Tok} {Q : List Value → Shared → Prop} (hh : A.handled = none) (hl : l.length ≤ 100000) (h : s.heap.get? a = some (rvObj l t ((l.length : Int) - 1)))
    (hQ : ∀ s' acc, (∀ b o, b ≠ a → s.heap.get? b = some o → s'.heap.get? b = some o) → s'.gens = s.gens → s'.drawn = s.drawn → s'.os = s.os → ItemsOf (rvP l) acc l.length → Q acc.toList s') : wpAny (model prog w) A (collect (.ref a)) Q E s := by
  have W := (rvWalks (prog := prog) (w := w) (A := A.in1) hh a l t hl).toS
  have hst : rvSt l t a 0 s.heap := ⟨Nat.zero_le _, by rw [show (l.length : Int) - 1 - ((0 : Nat) : Nat) = (l.length : Int) - 1 by omega]; exact h⟩
  have hlt : a < s.heap.objs.size := Heap.lt_size h
  have hne : s.heap.objs.size ≠ a := Nat.ne_of_gt hlt
  have hSf : s.heap.objs.size ∉ [a] := by simpa using hne
  have h' : (s.heap.push nl).get? a = some (rvObj l t ((l.length : Int) - 1)) := Heap.get?_push_of_some _ h
  have hT : ({ s with heap := s.heap.push nl } : Shared).TypeIs (.ref a) "reversed" := ⟨_, h', rfl⟩
  unfold collect
  refine wpAny_bind (wpAny_runValue (codeAny_builtin F.entry_proto_collect ?_))
  rw [Around.under_plainId F.plain_proto_collect _]
  show wpAny _ A.in1 (newList [] >>= fun q => again (.builtin "list.__iadd__" ⟨[q, .ref a], []⟩)) _ _ s
  refine wpAny_bind (wpAny_newObj_type ?_)
  refine wpAny_pure ⟨plainId_quiet F.plain_list_iadd _, codeAny_builtin F.entry_list_iadd ?_⟩
  rw [Around.under_plainId F.plain_list_iadd _]
  show wpAny _ A.in1 (Builtin.List.listExtendWith (.ref s.heap.objs.size) (.ref a) (.ref s.heap.objs.size)) _ _ _
  unfold Builtin.List.listExtendWith
  refine wpAny_bind (wpAny_typeOf hT ?_)
  have g1 : Builtin.List.listSameRef (.ref s.heap.objs.size) (.ref a) = false := by simp [Builtin.List.listSameRef, hne]
  rw [if_neg (by rw [g1]; decide)]
  refine wpAny_bind (rvIterOk h' ?_)
  refine wpAny_bind (wpAny_holding ?_)
  unfold Builtin.List.listLengthHint
  refine wpAny_bind (wpAny_specialOf hT rvNoLen ?_)
  show wpAny _ A.in1 (specialOf (Value.ref a) (Str.ofString "__length_hint__") >>= _) _ _ _
  refine wpAny_bind (wpAny_specialOf hT rvHintS.lookup ?_)
  dsimp only
  rw [rvSplit]
  dsimp only
  refine wpAny_bind (wpAny_isInstance (b := true) hT rvSub ?_)
  rw [if_neg (by decide), if_neg (by decide +kernel)]
  refine wpAny_bind (wpAny_rule ?_)
  refine wpAny_bind (wpAny_of_eq (rvHintS.bind _) ?_)
  dsimp only
  refine wpAny_bind (wpAny_attempt (rvHint h' hl fun u tk htk => ?_))
  dsimp only
  rw [asI, pure_bind]
  dsimp only
  have g2 : Builtin.List.listFitsIndex ((l.length : Nat) : Int) = true := by
    unfold Builtin.List.listFitsIndex
    rw [Bool.and_eq_true]
    exact ⟨decide_eq_true (by omega), decide_eq_true (by omega)⟩
  have g3 : Builtin.List.listTooLong ((l.length : Nat) : Int).toNat = false := by
    unfold Builtin.List.listTooLong sizeLine
    rw [Int.toNat_natCast]
    exact decide_eq_false (by omega)
  rw [if_neg (by rw [g2]; decide), if_neg (by omega), if_neg (by rw [g3]; decide)]
  refine wpAny_pure ?_
  have fin : ∀ (hx : Heap) (c : Nat), hx.get? s.heap.objs.size = some { cls := .type "list", data := .seq #[] c } → (∀ b o, b ≠ s.heap.objs.size → s.heap.get? b = some o → hx.get? b = some o) →
      ∃ c', (again c' : Sem Fin) = again (.builtin "list.extend.loop" ⟨[.ref s.heap.objs.size, .ref a, .ref s.heap.objs.size], []⟩) ∧ c'.quiet = true ∧ codeAny (model prog w) A c' (fun r s' => match r with
        | .ok (.ret v) => wpAny (model prog w) A (match v with
          | .ref q => do
            let y ← load q
            match y.data with
            | .seq xs _ => pure xs.toList
            | _ => unsupported "internal:collect"
          | _ => unsupported "internal:collect") Q E s'
        | .ok _ => False
        | .error e => E e s') { s with heap := hx, toks := tk } := by
    intro hx c hS hk
    refine ⟨_, rfl, plainId_quiet F.plain_extend_loop _, ?_⟩
    have hst' : rvSt l t a 0 hx := ⟨Nat.zero_le _, hk a _ (Nat.ne_of_lt hlt) hst.2⟩
    refine codeAny_extend_loopS W (by unfold sizeLine; omega) _ hSf _ l.length 0 _ #[] c rfl (Nat.zero_le _) hst' hS (ItemsOf.nil _) fun s' acc' c' hm hS' hacc => ?_
    show wpAny _ A (load s.heap.objs.size >>= _) _ _ s'
    refine wpAny_bind (wpAny_load hS' ?_)
    refine wpAny_pure (hQ s' acc' (fun b o hb e => ?_) hm.gens hm.drawn hm.os hacc)
    have hbs : b ≠ s.heap.objs.size := fun z => by
      have := Heap.lt_size e
      rw [z] at this
      exact Nat.lt_irrefl _ this
    exact hm.heap b o (by simp [hb, hbs]) (hk b o hbs e)
  have h0 : (s.heap.push nl).get? s.heap.objs.size = some nl := Heap.get?_push_size _ rfl
  have k0 : ∀ b o, b ≠ s.heap.objs.size → s.heap.get? b = some o → (s.heap.push nl).get? b = some o := fun b o _ e => Heap.get?_push_of_some _ e
  by_cases hn0 : l.length = 0
  · rw [show ((((l.length : Nat) : Int) != 0)) = false by simp [hn0], if_neg (by decide +kernel)]
    obtain ⟨c', e', q1, q2⟩ := fin _ _ h0 k0
    rw [← e']
    exact wpAny_pure ⟨q1, q2⟩
  · rw [show ((((l.length : Nat) : Int) != 0)) = true by rw [bne_iff_ne]; omega, if_pos (by rfl)]
    refine wpAny_bind (wpAny_rule ?_)
    refine wpAny_bind ?_
    show wpAny _ A.in1 (updateSeq s.heap.objs.size (·.push .none) >>= fun _ => updateSeq s.heap.objs.size (·.pop)) _ _ _
    have z0 : 0 ≤ sizeLine := Nat.zero_le _
    have z1 : 1 ≤ sizeLine := by decide
    refine wpAny_bind (wpAny_updateSeq h0 rfl ?_ (hz := z0) (_hz' := Nat.le_succ_of_le z1))
    have h1 := Heap.get?_update_self (Obj.mapSeq (·.push Value.none)) h0 rfl
    refine wpAny_updateSeq h1 rfl ?_ (hz := z1) (_hz' := Nat.le_succ_of_le z0)
    have h2 := Heap.get?_update_self (Obj.mapSeq (·.pop)) h1 rfl
    obtain ⟨c', e', q1, q2⟩ := fin _ _ h2 fun b o hb e => (Heap.get?_update_other _ _ (Ne.symm hb)).trans ((Heap.get?_update_other _ _ (Ne.symm hb)).trans (k0 b o hb e))
    rw [← e']
    exact wpAny_pure ⟨q1, q2⟩
end L2

set_option Elab.async false
set_option linter.all false
set_option maxRecDepth 100000
set_option maxHeartbeats 4000000
/-! reversed(a text). -/
namespace L2
open PySem PySem.Spec PyProof.Rows PySem.W
theorem rvInitA (a b : Value) : argsOk "object.__init__" ⟨[a, b], []⟩ := by
  unfold argsOk
  rw [signature?_of (id := "object.__init__") (n := ['_', '_', 't', 'i', 'n', 'i', '_', '_']) (o := ['t', 'c', 'e', 'j', 'b', 'o']) (by kernel_rfl) F.owner_object]
  kernel_rfl
end L2

set_option Elab.async false
set_option linter.all false
set_option maxRecDepth 100000
set_option maxHeartbeats 4000000
namespace L2
open PySem PySem.Spec PyProof.Rows PySem.W
theorem rvGlue {p : List (Str × Tok)} (hok : Builtin.Str.tooLong ((p.map (·.1)).toArray.foldl (· + ·.length + (⟨#[]⟩ : Str).length) 0) = false) : Gives (joinTail ⟨#[]⟩ (strValues p)) (joinMade ⟨#[]⟩ p) := by
  have g := gives_joinTail ⟨#[]⟩ p hok
  cases p with
  | nil => exact g
  | cons x r =>
    cases r with
    | nil => exact g
    | cons y r => exact g
theorem rvJoin {prog : Program} {w : World} {A : Around} {E : Value → Shared → Prop} {s : Shared} {a : Addr} {l : List Nat} {t u : Tok} {Q : Value → Shared → Prop} (hh : A.handled = none) (hl : l.length ≤ 10000) (h : s.heap.get? a = some (rvObj l t ((l.length : Int) - 1)))
    (hQ : ∀ h' k t', (∀ b o, b ≠ a → s.heap.get? b = some o → h'.get? b = some o) → Q (.str ⟨l.reverse.toArray⟩ t') { s with heap := h', toks := k }) : wpAny (model prog w) A (call (.builtin "str.join") [.str ⟨#[]⟩ u, .ref a]) Q E s := by
  have hT : s.TypeIs (.ref a) "reversed" := ⟨_, h, rfl⟩
  refine wpAny_call (codeAny_call_builtin F.slot_str_join.plain F.entry_str_join ?_)
  refine F.slot_str_join.check _ _ _ _ _ _ _ _ (typeIs_str _ _ _) (F.args_str_join_2 _ _) ?_
  unfold Builtin.«str.join»
  refine wpAny_bind (wpAny_of_eq (a := (_, (⟨#[]⟩ : Str), Value.ref a)) rfl ?_)
  dsimp only
  refine wpAny_bind (wpAny_typeOf hT ?_)
  rw [if_neg (by decide)]
  refine wpAny_bind ?_
  refine wpAny_tryCatch (rvIterOk h ?_)
  refine wpAny_bind (rvCollect (A := A.in1) hh (by omega) h fun s' acc hk hg hd ho hacc => ?_)
  show wpAny _ _ (joinTail ⟨#[]⟩ acc.toList) _ _ s'
  obtain ⟨p, hp⟩ := exists_strValues acc.toList fun v hv => by
    obtain ⟨j, hj, rfl⟩ := Array.mem_iff_getElem.mp (Array.mem_toList_iff.mp hv)
    obtain ⟨c, u', _, e⟩ := hacc.2 j _ (Array.getElem?_eq_getElem hj)
    exact ⟨_, u', e⟩
  rw [← hp]
  have hsz : p.length = l.length := by
    have h1 := hacc.1
    have h2 : p.length = acc.toList.length := by rw [← hp]; simp [strValues]
    rw [h2]
    simpa using h1
  have htx : p.map (·.1) = l.reverse.map fun c => (⟨#[c]⟩ : Str) := by
    apply List.ext_getElem?
    intro j
    by_cases hj : j < p.length
    · have hv : acc[j]? = some (.str p[j].1 p[j].2) := by
        have : acc.toList[j]? = some (.str p[j].1 p[j].2) := by rw [← hp]; simp [strValues, hj]
        simpa using this
      obtain ⟨c, u', hc, e⟩ := hacc.2 j _ hv
      injection e with e1 _
      rw [List.getElem?_map, List.getElem?_map, hc, List.getElem?_eq_getElem hj]
      simp [e1]
    · rw [List.getElem?_eq_none (by simpa using hj), List.getElem?_eq_none (by simp; omega)]
  have hsum : ((p.map (·.1)).map (·.length)).sum = l.length := by
    rw [htx, List.map_map]
    have : ∀ r : List Nat, (r.map ((·.length) ∘ fun c => (⟨#[c]⟩ : Str))).sum = r.length := by
      intro r
      induction r with
      | nil => rfl
      | cons c r ih => rw [List.map_cons, List.sum_cons, ih, List.length_cons]; show 1 + r.length = _; omega
    rw [this, List.length_reverse]
  have hok := joinOk_of (sep := ⟨#[]⟩) (ys := p.map (·.1)) (by
    have e0 : (⟨#[]⟩ : Str).length = 0 := rfl
    rw [hsum, e0]
    omega)
  unfold JoinOk at hok
  rw [Bool.not_eq_true'] at hok
  have g := rvGlue hok
  have ej : Txt.join ⟨#[]⟩ (p.map (·.1)) = ⟨l.reverse.toArray⟩ := by
    rw [htx]
    have e2 : (l.reverse.map fun c => (⟨#[c]⟩ : Str)) = (l.reverse.map fun c => [c]).map fun x => (⟨x.toArray⟩ : Str) := by rw [List.map_map]; rfl
    rw [e2]
    refine (glued_nil _).trans ?_
    congr 2
    generalize l.reverse = r
    induction r with
    | nil => rfl
    | cons c r ih => rw [List.map_cons, List.flatten_cons, ih]; rfl
  have same : ∀ k, ({ s' with toks := k } : Shared) = { s with heap := s'.heap, toks := k } := fun k => by
    obtain ⟨q1, q2, q3, q4, q5⟩ := s'
    obtain ⟨r1, r2, r3, r4, r5⟩ := s
    simp only at hg hd ho
    subst hg hd ho
    rfl
  refine g prog w A (wants Q E) s' (post_join p ⟨joinFit_length hok, fun t' k => ?_⟩)
  rw [ej, same]
  exact hQ s'.heap k t' hk
end L2

set_option Elab.async false
set_option linter.all false
set_option maxRecDepth 100000
set_option maxHeartbeats 4000000
namespace L2
open PySem PySem.Spec PyProof.Rows PySem.W
theorem pe_revj {X : Cx} {x : Str} {j} {p apos p2 pos2 pos : Pos} {a : Expr} {ta : TE} (hc : X.calm = true) (hg : Gl X "reversed") (hm : X.mg "reversed" = none) (ha : PE X a ta) (hst : isStar a = false) (hx : x = ⟨([] : List Nat).toArray⟩ := by decide +kernel) (hline : (apos.endLine == pos.line) = true := by rfl) :
    PE X (.Call (.Attribute (.Constant (.str x) j p) "join" apos) [.Call (.Name "reversed" p2) [a] [] pos2] [] pos) (fun σ H Q => ta σ H fun v H1 => ∃ l, [v] = [S l] ∧ l.length ≤ 10000 ∧ Q (S l.reverse) H1) := by
  intro pins s σ H Q I h
  have hs : starEach [Expr.Call (.Name "reversed" p2) [a] [] pos2] X.env = (false, eval (.Call (.Name "reversed" p2) [a] [] pos2) X.env) :: starEach [] X.env := starEach_cons rfl
  have ha1 : PA X [a] (tCons ta tNil) := @pax _ _ _ _ _ hst ha pa_nil
  have hs1 : starEach [a] X.env = [(false, eval a X.env)] := starEach_cons hst
  refine wpAny_Call_method_late rfl (by rw [hs]; rfl) hline rfl (thn ((pe_S (l := []) hx) pins s σ H (fun v H1 => v = S [] ∧ H1 = H) I ⟨rfl, rfl⟩) fun v s1 ⟨y, H1, I1, r1, e1, e2⟩ => ?_)
  subst e1 e2
  obtain ⟨h1, h2⟩ := tyV_is (T := "str") I1 r1 rfl
  obtain ⟨t, rfl⟩ := r1
  refine ⟨"str", "str.join", PySem.F.plainAttrs_str, PySem.F.slot_str_join, PySem.F.type_str_join, h1, h2, ?_⟩
  rw [hs]
  refine Calls.callWith_builtin (by rfl) (Calls.evalArgs_plain ?_)
  show wpAny _ _ (spliced ((false, eval (.Call (.Name "reversed" p2) [a] [] pos2) X.env) :: backTo pos (starEach [] X.env))) _ _ s1
  refine Calls.spliced_cons ?_
  refine Call_ (ld_blt I1 hg hm boot_reversed (PyProof.Rows.callWith_type1 (thn (ha1 pos2 pins s1 σ _ (fun vs H2 => ∃ l, vs = [S l] ∧ l.length ≤ 10000 ∧ Q (S l.reverse) H2) I1 h) fun us s2 ⟨vs, H2, I2, r2, q2⟩ => ?_) hs1 rfl))
  obtain ⟨l, e, hl, q⟩ := q2
  subst e
  cases r2 with
  | cons r rr =>
    cases rr
    obtain ⟨t', rfl⟩ := r
    refine callType_new rvCalled (by decide) (rvTC _) (rvNC _) (fun obj => rvInitA obj _) rvNewE (mRev l t') ⟨by omega, ?_⟩
    have gz : (s2.heap.push (rvObj l t' ((l.length : Int) - 1))).get? s2.heap.objs.size = some (rvObj l t' ((l.length : Int) - 1)) := Heap.get?_push_size _ rfl
    refine ⟨⟨_, gz, rfl⟩, Calls.spliced_nil ?_⟩
    refine rvJoin (I.ok.hd hc) hl gz fun h' k t'' hk => ?_
    exact ⟨S l.reverse, H2, I2.kept (t' := k) fun b o e => hk b o (Nat.ne_of_lt (Heap.lt_size e)) (Heap.get?_push_of_some _ e), ⟨t'', rfl⟩, q⟩
theorem ev_revj {X : Cx} {cls : Nat → Addr} {E : XK} {x : Str} {j} {p apos p2 pos2 pos : Pos} {a : Expr} {f : Rho → M Dt} (hc : X.calm = true) (hg : Gl X "reversed") (hm : X.mg "reversed" = none) (ha : Ev X cls E a f) (hst : isStar a = false) (hx : x = ⟨([] : List Nat).toArray⟩ := by decide +kernel) (hline : (apos.endLine == pos.line) = true := by rfl) :
    Ev X cls E (.Call (.Attribute (.Constant (.str x) j p) "join" apos) [.Call (.Name "reversed" p2) [a] [] pos2] [] pos) (p1 oRevJ f) :=
  (pe_revj hc hg hm ha hst hx hline).imp fun σ H Q ⟨O, A, ρ, F, q⟩ => by
  refine ⟨O, A, ρ, F, Rg.bind q fun d hd q1 => ?_⟩
  clear hd
  intro v H1 s1 r1 z1
  cases d with
  | str l =>
    exact ⟨l, by rw [repS r1], z1, q1 _ H1 s1 rep_str (by show l.reverse.length ≤ 10000; rw [List.length_reverse]; exact z1)⟩
  | _ => exact (show False from q1).elim
end L2

set_option Elab.async false
set_option linter.all false
set_option maxRecDepth 100000
set_option maxHeartbeats 4000000
/-! [f, g, h][i](..) -/
namespace L2
open PySem PySem.Spec PyProof.Rows PySem.W
section
variable {X : Cx} {cls : Nat → Addr} {E : XK} {a i : Expr} {es : List Expr} {fs : Rho → M (List Dt)} {f : Rho → M Dt} {F0 F1 F2 : List Dt → M Dt}
end
end L2

set_option Elab.async false
set_option linter.all false
set_option maxRecDepth 100000
set_option maxHeartbeats 4000000
/-! A dict of texts, written at the top: d[k]. -/
namespace L2
open PySem PySem.Spec PyProof.Rows PySem.W
def dlook : List (List Nat × List Nat) → List Nat → Option (List Nat)
  | [], _ => none
  | (k, v) :: r, l => if l = k then some v else dlook r l
def entD (P : Params) (q : List Nat × Tok × List Nat × Tok) : DictEntry := ⟨PyData.keyHash P ⟨q.1.toArray⟩, .str ⟨q.1.toArray⟩ q.2.1, .str ⟨q.2.2.1.toArray⟩ q.2.2.2⟩
def DcK (w : World) (K : PySem.W.Frag) (a : Addr) (kvs : List (List Nat × List Nat)) : Prop :=
  ∃ (qs : List (List Nat × Tok × List Nat × Tok)) (ep : Nat), K.lookup a = some { cls := .type "dict", dict := none, data := .dict (qs.map (entD w.params)).toArray ep, slots := #[] } ∧ kvs = qs.map fun q => (q.1, q.2.2.1)
theorem key_hash (w : World) (x : Str) : PyData.keyHash w.params x = hashStr w x := by
  rfl
theorem find_ent {P : Params} : ∀ {qs : List (List Nat × Tok × List Nat × Tok)} {l v : List Nat}, dlook (qs.map fun q => (q.1, q.2.2.1)) l = some v → ∃ t, ((qs.map (entD P)).find? fun e => Value.isStrOf ⟨l.toArray⟩ e.key).map (·.val) = some (.str ⟨v.toArray⟩ t)
  | [], l, v, h => by cases h
  | q :: qs, l, v, h => by
    simp only [List.map_cons, dlook] at h
    rw [List.map_cons, List.find?_cons]
    by_cases e : l = q.1
    · rw [if_pos e] at h
      cases h
      have : Value.isStrOf ⟨l.toArray⟩ (entD P q).key = true := by simp [entD, Value.isStrOf, e]
      rw [this]
      exact ⟨q.2.2.2, rfl⟩
    · rw [if_neg e] at h
      have : Value.isStrOf ⟨l.toArray⟩ (entD P q).key = false := by
        simp only [entD, Value.isStrOf]
        rw [beq_eq_false_iff_ne]
        intro z
        injection z with z
        exact e (by simpa using (congrArg Array.toList z).symm)
      rw [this]
      exact find_ent h
theorem ix_dc {X : Cx} {a : Addr} {kvs : List (List Nat × List Nat)} (D : DcK X.w X.K a kvs) : IxR X (fun x y H Q => ∃ l v, x = .ref a ∧ y = S l ∧ dlook kvs l = some v ∧ Q (S v) H) := by
  intro value slice pins s σ H x y v u Q I rx ry h hs
  obtain ⟨l, c, ex, ey, hd, q⟩ := h
  subst ex ey
  cases rx
  obtain ⟨t, rfl⟩ := ry
  obtain ⟨qs, ep, hk, rfl⟩ := D
  have ho := I.kIn a _ hk
  obtain ⟨t', ht⟩ := find_ent (P := X.w.params) hd
  have hm : s.heap.MapOf (strKind X.prog X.w) a (fun k => findBy Value.isStrOf (qs.map (entD X.w.params)).toArray k) := by
    refine ⟨_, _, ep, ho, ⟨rfl, rfl, rfl⟩, rfl, ?_, fun _ => rfl⟩
    intro e he
    have he' : e ∈ qs.map (entD X.w.params) := by simpa using he
    obtain ⟨q, _, rfl⟩ := List.mem_map.mp he'
    exact ⟨⟨q.1.toArray⟩, strKind_is X.prog X.w _ _, key_hash _ _⟩
  have hv : findBy Value.isStrOf (qs.map (entD X.w.params)).toArray ⟨l.toArray⟩ = some (.str ⟨c.toArray⟩ t') := by
    unfold findBy
    rw [List.find?_toArray]
    exact ht
  refine subscriptTail_builtinR (x := .str ⟨c.toArray⟩ t') hm.typeIs slot_dict_getitem.lookup (wpAny_getItem_of (k := ⟨l.toArray⟩) (strKind_is X.prog X.w _ _) hm hv ⟨rfl, ?_⟩) hs
  exact ⟨S c, H, I.tok _, ⟨t', rfl⟩, q⟩
end L2

set_option Elab.async false
set_option linter.all false
set_option maxRecDepth 100000
set_option maxHeartbeats 4000000
/-! A list of small numbers, written into a text. -/
namespace L2
open PySem PySem.Spec PyProof.Rows PySem.W
theorem Cal.up {P : Program} {w : World} {K : PySem.W.Frag} {mg : Str → Option Value} {base : Heap} {CX : CXT} {j k : Nat} {x : Str} {ps : List Str} {sp : Sp} (C : Cal P w K mg base CX j x ps sp) (h : j ≤ k) : Cal P w K mg base CX k x ps sp := by
  obtain ⟨f, fd, h1, h2, h3, h4⟩ := C
  exact ⟨f, fd, h1.mono h, h2, h3, h4⟩
end L2

set_option Elab.async false
set_option linter.all false
set_option maxRecDepth 100000
set_option maxHeartbeats 4000000
/-! d[k] of a dict of texts that stands at the top, {..}[k] of one that is written there. -/
namespace L2
open PySem PySem.Spec PyProof.Rows PySem.W
section
variable {X : Cx} {cls : Nat → Addr} {E : XK} {a b v : Expr} {f g : Rho → M Dt} {fs : Rho → M (List Dt)} {pos : Pos}
theorem dget_look : ∀ {kvs : List (List Nat × List Nat)} {d e : Dt}, dgetM (kvs.map fun q => (q.1, Dt.str q.2)) d = .ok e → ∃ l m, d = .str l ∧ dlook kvs l = some m ∧ e = .str m ∧ ∃ k, (k, m) ∈ kvs
  | [], d, e, h => by cases h
  | (k, m) :: r, d, e, h => by
    cases d with
    | str l =>
      simp only [List.map_cons, dgetM] at h
      by_cases z : l = k
      · rw [if_pos z] at h
        cases h
        exact ⟨l, m, rfl, if_pos z, rfl, k, List.mem_cons_self ..⟩
      · rw [if_neg z] at h
        obtain ⟨l', m', e1, e2, e3, k', e4⟩ := dget_look h
        cases e1
        exact ⟨l, m', rfl, (if_neg z).trans e2, e3, k', List.mem_cons_of_mem _ e4⟩
    | _ => cases h
theorem dget_noex : ∀ {kvs : List (List Nat × Dt)} {d : Dt} {c : Nat}, dgetM kvs d ≠ .ex c
  | [], d, c => by intro h; cases h
  | (k, m) :: r, d, c => by
    intro h
    cases d with
    | str l =>
      simp only [dgetM] at h
      split at h
      · cases h
      · exact dget_noex h
    | _ => cases h
theorem ev_dgetG {x : Str} {p : Pos} {aD : Addr} {kvs : List (List Nat × List Nat)} (D : DcK X.w X.K aD kvs) (hg : Gl X x) (hm : X.mg x = some (.ref aD)) (hb : Ev X cls E b g) (hs : PlainIx b) (hz : ∀ q ∈ kvs, q.2.length ≤ 10000 := by decide) (hd : (x == ("__debug__" : Str)) = false := by decide) :
    Ev X cls E (.Subscript (.Name x p) b pos) (p1 (dgT kvs) g) := by
  refine (pe_ix (ix_dc D) (pe_glob hg hm (v := .ref aD) rfl hd) hb hs).imp fun σ H Q ⟨O, A, ρ, F, q⟩ => ?_
  refine ⟨O, A, ρ, F, Rg.bind q fun d _ q1 => ?_⟩
  intro u H1 s1 r1 z1
  unfold dgT at q1
  cases e : dgetM (kvs.map fun q => (q.1, Dt.str q.2)) d with
  | ok c =>
    obtain ⟨l, m, rfl, h2, rfl, k, hk⟩ := dget_look e
    rw [e] at q1
    exact ⟨l, m, rfl, repS r1, h2, q1 _ H1 s1 rep_str (hz _ hk)⟩
  | ex c => exact (dget_noex e).elim
  | bad => rw [e] at q1; exact (show False from q1).elim
end
end L2

set_option Elab.async false
set_option linter.all false
set_option maxRecDepth 100000
set_option maxHeartbeats 4000000
/-! len(set(texts)) -/
namespace L2
open PySem PySem.Spec PyProof.Rows PySem.W
theorem dup_snoc {α : Type} [DecidableEq α] (l : List α) (k : α) : (l ++ [k]).eraseDups.length = if k ∈ l then l.eraseDups.length else l.eraseDups.length + 1 := by
  rw [List.eraseDups_append, List.length_append]
  by_cases h : k ∈ l
  · have : [k].removeAll l = [] := by simp [List.removeAll, h]
    rw [if_pos h, this]
    rfl
  · have : [k].removeAll l = [k] := by simp [List.removeAll, h]
    rw [if_neg h, this]
    rfl
theorem dup_le {α : Type} [DecidableEq α] : ∀ (n : Nat) (l : List α), l.length = n → l.eraseDups.length ≤ n
  | 0, l, h => by rw [List.length_eq_zero_iff.mp h]; exact Nat.le_refl _
  | n + 1, l, h => by
    have hne : l ≠ [] := fun e => by rw [e] at h; cases h
    have e := List.dropLast_concat_getLast hne
    have hl : l.dropLast.length = n := by rw [List.length_dropLast, h]; rfl
    have := dup_le n l.dropLast hl
    rw [← e, dup_snoc]
    split <;> omega
section
variable {prog : Program} {w : World} {A : Around} {R : Result → Shared → Prop} {I S : Addr} {fp wr : List Addr} {St : Nat → Heap → Prop} {Kt : Type} [DecidableEq Kt] {knd : KeyKind prog w Kt}
end
section
variable {prog : Program} {w : World} {A : Around} {E : Value → Shared → Prop} {s : Shared} {Kt : Type} [DecidableEq Kt] {knd : KeyKind prog w Kt}
abbrev setO (led : Bool) : Obj := { cls := .type "set", dict := none, data := .set #[] 0 (.fresh 0 0 led) }
end
end L2

set_option Elab.async false
set_option linter.all false
set_option maxRecDepth 100000
set_option maxHeartbeats 4000000
/-! len(set(texts)), read -/
namespace L2
open PySem PySem.Spec PyProof.Rows PySem.W
def txt (l : List Nat) : Str := ⟨l.toArray⟩
theorem txt_inj (a b : List Nat) (h : txt a = txt b) : a = b := by
  injection h with h
  simpa using congrArg Array.toList h
theorem beq_same {α : Type} [DecidableEq α] (i : BEq α) [LawfulBEq α] : (instBEqOfDecidableEq : BEq α) = i := by
  cases i with
  | mk g =>
    have : (fun a b : α => decide (a = b)) = g := by
      funext a b
      have h : (g a b = true) ↔ a = b := @beq_iff_eq α ⟨g⟩ _ a b
      rw [Bool.eq_iff_iff, h, decide_eq_true_eq]
    exact congrArg BEq.mk this
section
variable {X : Cx} {cls : Nat → Addr} {E : XK} {e : Expr} {f : Rho → M Dt} {pos pos2 p p2 : Pos}
end
end L2

set_option Elab.async false
set_option linter.all false
set_option maxRecDepth 100000
set_option maxHeartbeats 4000000
/-! min(rows of two numbers) -/
namespace L2
open PySem PySem.Spec PyProof.Rows PySem.W
def rowsAt (bad : List Addr) (items : Array Value) (rs : List (Int × Int)) (h : Heap) : Prop :=
  ∀ (i : Nat) (v : Value), items[i]? = some v → ∃ a its p, v = .ref a ∧ a ∉ bad ∧ rs[i]? = some p ∧ IsTup h a its ∧ IntsAre its.toList [p.1, p.2]
theorem rowsAt.keep {bad : List Addr} {items : Array Value} {rs : List (Int × Int)} {h h' : Heap} (x : rowsAt bad items rs h) (k : ∀ b o, b ∉ bad → h.get? b = some o → h'.get? b = some o) : rowsAt bad items rs h' := fun i v e => by
  obtain ⟨a, its, p, h1, h2, h3, ⟨o, h4, h5⟩, h6⟩ := x i v e
  exact ⟨a, its, p, h1, h2, h3, ⟨o, k a o h2 h4, h5⟩, h6⟩
section
variable {prog : Program} {w : World} {A : Around} {R : Result → Shared → Prop} {I S : Addr} {fp wr : List Addr} {St : Nat → Heap → Prop} {items : Array Value} {rs : List (Int × Int)}
end
section
variable {prog : Program} {w : World} {A : Around} {E : Value → Shared → Prop} {s : Shared} {items : Array Value} {rs : List (Int × Int)} {p : Addr}
end
end L2

set_option Elab.async false
set_option linter.all false
set_option maxRecDepth 100000
set_option maxHeartbeats 4000000
/-! min(rows of two numbers), read -/
namespace L2
open PySem PySem.Spec PyProof.Rows PySem.W
section
variable {X : Cx} {cls : Nat → Addr} {E : XK} {a e dE : Expr} {f g : Rho → M Dt} {pos p kp : Pos}
end
end L2

set_option Elab.async false
set_option linter.all false
set_option maxRecDepth 100000
set_option maxHeartbeats 4000000
/-! text.split(sign), d.get(k, e), list[::2], isinstance(x, str) -/
namespace L2
open PySem PySem.Spec PyProof.Rows PySem.W
/-! ### split -/
section
variable {X : Cx} {cls : Nat → Addr} {E : XK} {a b e dE o : Expr} {f g : Rho → M Dt} {fs : Rho → M (List Dt)} {pos p kp : Pos}
end
section
variable {X : Cx} {cls : Nat → Addr} {E : XK} {a b e dE o : Expr} {f g : Rho → M Dt} {fs : Rho → M (List Dt)} {pos p kp : Pos}
/-! ### isinstance -/
/-! ### every other item -/
end
/-! ### d.get(k, e) -/
section
variable {X : Cx} {cls : Nat → Addr} {E : XK} {a b : Expr} {f g : Rho → M Dt} {pos p apos : Pos}
end
end L2

set_option Elab.async false
set_option linter.all false
set_option maxRecDepth 100000
set_option maxHeartbeats 4000000
/-! a << b, tuple(x), sum(x), max(x, default=d) -/
namespace L2
open PySem PySem.Spec PyProof.Rows PySem.W
section
variable {X : Cx} {cls : Nat → Addr} {E : XK} {a b e dE o : Expr} {f g : Rho → M Dt} {fs : Rho → M (List Dt)} {pos p kp : Pos}
theorem od_shl : OpD X cls E (binaryOp .LShift) oShl := by
  refine ⟨_, op_shl, fun A H Q d1 d2 x y L r1 r2 z1 z2 q => ?_⟩
  cases d1 with
  | int i =>
    cases d2 with
    | int j =>
      simp only [oShl] at q
      split at q
      · rename_i h
        exact ⟨i, j, repI r1, repI r2, ⟨h.1, by omega, h.2.2⟩, q _ H (.refl _) rep_int trivial⟩
      · exact (show False from q).elim
    | _ => exact (show False from q).elim
  | _ => exact (show False from q).elim
theorem ints_rep {K : PySem.W.Frag} {H : Hp} : ∀ {ds : List Dt} {ns : List Int} {xs : List V}, intsD ds = some ns → Reps K H ds xs → xs = ns.map V.int
  | [], ns, xs, h, r => by
    simp only [Reps] at r
    simp only [intsD, Option.some.injEq] at h
    subst r h
    rfl
  | d :: ds, ns, xs, h, r => by
    simp only [Reps] at r
    obtain ⟨x, t, rfl, r1, r2⟩ := r
    cases d with
    | int i =>
      simp only [intsD, Option.map_eq_some_iff] at h
      obtain ⟨cs, hc, rfl⟩ := h
      simp only [Rep] at r1
      rw [ints_rep hc r2, List.map_cons, r1]
    | _ => simp [intsD] at h
def iv (ns : List Int) (i : Nat) : Int := ns.getD i 0
theorem pre_take (ns : List Int) : ∀ k, k ≤ ns.length → preSum (iv ns) k = (ns.take k).sum
  | 0, _ => by simp [preSum]
  | k + 1, h => by
    have hk : k < ns.length := by omega
    simp only [preSum, pre_take ns k (by omega)]
    rw [List.take_add_one, List.sum_append]
    simp [iv, hk]
theorem sum_bound : ∀ (ns : List Int), (∀ n ∈ ns, -1000000 ≤ n ∧ n ≤ 1000000) → -(1000000 * (ns.length : Int)) ≤ ns.sum ∧ ns.sum ≤ 1000000 * (ns.length : Int)
  | [], _ => by simp
  | n :: ns, h => by
    have ih := sum_bound ns fun x hx => h x (List.mem_cons_of_mem _ hx)
    have hn := h n (List.mem_cons_self ..)
    rw [List.sum_cons, List.length_cons]
    push_cast
    omega
theorem cd_sum (hc : X.calm = true) : CaD X cls E (.builtin "sum") bSum := by
  refine ⟨fun xs H Q => ∃ (p : Addr) (ns : List Int), xs = [.ref p] ∧ SqL X.K H p (ns.map V.int) ∧ ns.length ≤ 1000 ∧ (∀ n ∈ ns, -1000000 ≤ n ∧ n ≤ 1000000) ∧ Q (.int ns.sum) H, ?_, fun A H Q ds vs L r z q => ?_⟩
  · intro pins s σ H xs us Q I r ⟨p, ns, e, hq, hl, hb, q⟩
    subst e
    obtain ⟨u, rfl, ru⟩ := r.one
    cases ru
    obtain ⟨its, rv, pl, hz⟩ := I.list hq
    have hlt : p < s.heap.objs.size := by obtain ⟨o, n, e, _⟩ := pl; exact Heap.lt_size e
    have hlen : its.length = ns.length := by have := rv.length; simpa using this.symm
    refine call_sum_walk (wpAny_pyIter_list pl.isList ⟨_, _, _, _, _, _, iv ns, rfl, Walks.list (A := X.A.in1) (I.ok.hd hc) s.heap.objs.size p (Nat.ne_of_lt hlt) its.toArray, ⟨⟨_, Heap.get?_push_size _ rfl, rfl, rfl⟩, pl.isList.push _⟩, ?_, fun i v hv => ?_, fun j hj => ?_, fun h' tk t' hk => ?_⟩)
    · intro b hb'
      have hb2 : b = s.heap.objs.size ∨ b = p := by simpa using hb'
      rw [Heap.size_push]
      rcases hb2 with rfl | rfl
      · exact Nat.lt_succ_self _
      · exact Nat.lt_succ_of_lt hlt
    · have hv' : its[i]? = some v := by simpa using hv
      have hi : i < its.length := (List.getElem?_eq_some_iff.mp hv').1
      have hi2 : i < ns.length := by omega
      obtain ⟨u, hu, ru⟩ := rv.get (i := i) (x := .int ns[i]) (by simp [hi2])
      rw [hv'] at hu
      cases hu
      obtain ⟨t, rfl⟩ := ru
      exact ⟨t, by simp [iv, hi2]⟩
    · have hj' : j < ns.length := by simp at hj; omega
      have h1 := hb (iv ns j) (by simp [iv, hj'])
      rw [pre_take ns (j + 1) (by omega)]
      have h2 := sum_bound (ns.take (j + 1)) fun n hn => hb n (List.mem_of_mem_take hn)
      rw [List.length_take] at h2
      unfold InLong
      omega
    · have e : preSum (iv ns) its.toArray.size = ns.sum := by
        rw [show its.toArray.size = ns.length by simp [hlen], pre_take ns _ (Nat.le_refl _), List.take_length]
      rw [e]
      exact ⟨.int ns.sum, H, I.kept (t' := tk) (fun b o e => hk b o (by simpa using Nat.ne_of_lt (Heap.lt_size e)) (Heap.get?_push_of_some _ e)), ⟨t', rfl⟩, q⟩
  · unfold bSum at q
    split at q
    · rename_i l
      obtain ⟨v, rfl, rv⟩ := reps1 r
      obtain ⟨p, xs, rfl, h1, h2⟩ := repL rv
      unfold sumR at q
      split at q
      · rename_i ns hns
        split at q
        · rename_i h
          rw [ints_rep hns h2] at h1
          refine ⟨p, ns, rfl, hid_same.seq h1, h.1, fun n hn => ?_, q _ H (.refl _) rep_int trivial⟩
          have := List.all_eq_true.mp h.2 n hn
          simp at this
          exact this
        · exact (show False from q).elim
      · exact (show False from q).elim
    · exact (show False from q).elim
end
def gtB (ns : List Int) (i j : Nat) : Bool := decide (iv ns i > iv ns j)
section
variable {prog : Program} {w : World} {A : Around} {R : Result → Shared → Prop} {I S : Addr} {fp wr : List Addr} {St : Nat → Heap → Prop} {items : Array Value} {ns : List Int}
theorem ints_gt {s : Shared} {i j : Nat} {v u : Value} {Q : Value → Shared → Prop} {E : Value → Shared → Prop} (hi : ∀ (i : Nat) (v : Value), items[i]? = some v → ∃ t, v = .int (iv ns i) t) (hv : items[i]? = some v) (hw : items[j]? = some u) (q : Q (.bool (gtB ns i j)) s) : wpAny (model prog w) A (richCompare .Gt v u) Q E s := by
  obtain ⟨t1, rfl⟩ := hi i v hv
  obtain ⟨t2, rfl⟩ := hi j u hw
  exact (PyProof.Rows.gt_int q : wpAny (model prog w) A (compareOp .Gt (.int _ t1) (.int _ t2)) Q E s)
/-- what is left of the rows, from the row j + 1 on -/
theorem max_loop (kw : List (Str × Value)) (hi : ∀ (i : Nat) (v : Value), items[i]? = some v → ∃ t, v = .int (iv ns i) t) (W : Walks prog w A.in1 I fp wr items.size (fun i v => items[i]? = some v) St) (hSf : S ∉ fp) :
    ∀ (k j : Nat) (s : Shared) (vb : Value) (c : Nat), items.size - (j + 1) = k → j + 1 ≤ items.size → St (j + 1) s.heap → items[argBest (gtB ns) j]? = some vb →
    s.heap.get? S = some { cls := .type "list", dict := none, data := .seq #[vb, vb] c, slots := #[] } →
    (∀ v h' tk, items[argBest (gtB ns) (items.size - 1)]? = some v → (∀ b o, b ∉ S :: wr → s.heap.get? b = some o → h'.get? b = some o) → R (.ok (.ret v)) { s with heap := h', toks := tk }) →
    codeAny (model prog w) A (.builtin "max.loop" ⟨[.ref I, .none, .ref S], kw⟩) R s := by
  have hSw : S ∉ wr := fun h => hSf (W.sub _ h)
  have hwr : ∀ {b : Addr}, b ∉ S :: wr → b ∉ wr := fun h z => h (List.mem_cons_of_mem _ z)
  have hbS : ∀ {b : Addr}, b ∉ S :: wr → b ≠ S := fun h z => h (z ▸ List.mem_cons_self ..)
  have hname : (toString "max" ++ toString ".loop" : String) = "max.loop" := by decide
  intro k
  induction k with
  | zero =>
    intro j s vb c hk hj hst hb hS hR
    have hin : j + 1 = items.size := by omega
    refine codeAny_builtin PySem.F.entry_max_loop ?_
    rw [Around.under_plainId PySem.F.plain_max_loop _]
    show wpAny _ A.in1 (seqItems? (.ref S) >>= _) _ _ s
    refine wpAny_bind (wpAny_seqItems hS rfl ?_)
    show wpAny _ A.in1 (tryCatch (pyNext (.ref I)) _ >>= _) _ _ s
    refine wpAny_bind (wpAny_tryCatch (W.done s _ _ (hin ▸ hst) fun h' tk hk' => ?_))
    show wpAny _ A.in1 (updateSeq S (fun _ => #[]) >>= _) _ _ _
    refine wpAny_bind ?_
    refine wpAny_updateSeq (hk' S _ hSw hS) rfl (hz := ?hz) (wpAny_bind (wpAny_letGo (wpAny_pure ?_)))
    case hz => simp; decide
    refine hR vb _ tk (by rw [← hin]; exact hb) fun b o h e => (Heap.get?_update_other _ _ (Ne.symm (hbS h))).trans (hk' b o (hwr h) e)
  | succ k ih =>
    intro j s vb c hk hj hst hb hS hR
    have hlt : j + 1 < items.size := by omega
    refine codeAny_builtin PySem.F.entry_max_loop ?_
    rw [Around.under_plainId PySem.F.plain_max_loop _]
    show wpAny _ A.in1 (seqItems? (.ref S) >>= _) _ _ s
    refine wpAny_bind (wpAny_seqItems hS rfl ?_)
    show wpAny _ A.in1 (tryCatch (pyNext (.ref I)) _ >>= _) _ _ s
    refine wpAny_bind (wpAny_tryCatch (W.item (j + 1) s _ _ hlt hst fun v h' tk hP hst' hk' => ?_))
    have hS' := hk' S _ hSw hS
    show wpAny _ A.in1 (tryCatch (holding [v, v] (richCompare .Gt v vb >>= _)) _ >>= _) _ _ _
    refine wpAny_bind (wpAny_tryCatch (wpAny_holding (wpAny_bind (ints_gt (i := j + 1) (j := argBest (gtB ns) j) hi hP hb ?_))))
    refine wpAny_bind (wpAny_holding (wpAny_truthy_bool ?_))
    refine wpAny_bind (wpAny_letGo (wpAny_pure ?_))
    cases hbt : gtB ns (j + 1) (argBest (gtB ns) j) with
    | true =>
      simp only [if_true]
      refine wpAny_bind ?_
      refine wpAny_updateSeq hS' rfl (hz := ?hz) (wpAny_bind (wpAny_letGo ?_))
      case hz => simp; decide
      rw [hname]
      refine wpAny_pure ⟨plainId_quiet PySem.F.plain_max_loop _, ih (j + 1) _ v _ (by omega) hlt (W.frame _ _ _ hst' fun b hbf o e => ?_) (by simp only [argBest, hbt, if_true]; exact hP) (Heap.get?_update_self _ hS' rfl) fun v' h'' tk'' hP' hk'' => ?_⟩
      · exact (Heap.get?_update_other _ _ (fun h : S = b => hSf (by rw [h]; exact hbf))).trans e
      · exact hR v' h'' tk'' hP' fun b o h e => hk'' b o h ((Heap.get?_update_other _ _ (Ne.symm (hbS h))).trans (hk' b o (hwr h) e))
    | false =>
      simp only [Bool.false_eq_true, if_false]
      refine wpAny_bind (wpAny_letGo ?_)
      rw [hname]
      refine wpAny_pure ⟨plainId_quiet PySem.F.plain_max_loop _, ih (j + 1) _ vb c (by omega) hlt hst' (by simp only [argBest, hbt, Bool.false_eq_true, if_false]; exact hb) hS' fun v' h'' tk'' hP' hk'' => ?_⟩
      exact hR v' h'' tk'' hP' fun b o h e => hk'' b o h (hk' b o (hwr h) e)
theorem max_first (kw : List (Str × Value)) (hi : ∀ (i : Nat) (v : Value), items[i]? = some v → ∃ t, v = .int (iv ns i) t) (W : Walks prog w A.in1 I fp wr items.size (fun i v => items[i]? = some v) St) (hSf : S ∉ fp) (hn : 0 < items.size) {s : Shared} {c : Nat} (hst : St 0 s.heap)
    (hS : s.heap.get? S = some { cls := .type "list", dict := none, data := .seq #[] c, slots := #[] })
    (hR : ∀ v h' tk, items[argBest (gtB ns) (items.size - 1)]? = some v → (∀ b o, b ∉ S :: wr → s.heap.get? b = some o → h'.get? b = some o) → R (.ok (.ret v)) { s with heap := h', toks := tk }) :
    codeAny (model prog w) A (.builtin "max.loop" ⟨[.ref I, .none, .ref S], kw⟩) R s := by
  have hSw : S ∉ wr := fun h => hSf (W.sub _ h)
  have hwr : ∀ {b : Addr}, b ∉ S :: wr → b ∉ wr := fun h z => h (List.mem_cons_of_mem _ z)
  have hbS : ∀ {b : Addr}, b ∉ S :: wr → b ≠ S := fun h z => h (z ▸ List.mem_cons_self ..)
  have hname : (toString "max" ++ toString ".loop" : String) = "max.loop" := by decide
  refine codeAny_builtin PySem.F.entry_max_loop ?_
  rw [Around.under_plainId PySem.F.plain_max_loop _]
  show wpAny _ A.in1 (seqItems? (.ref S) >>= _) _ _ s
  refine wpAny_bind (wpAny_seqItems hS rfl ?_)
  show wpAny _ A.in1 (tryCatch (pyNext (.ref I)) _ >>= _) _ _ s
  refine wpAny_bind (wpAny_tryCatch (W.item 0 s _ _ hn hst fun v h' tk hP hst' hk' => ?_))
  have hS' := hk' S _ hSw hS
  show wpAny _ A.in1 (updateSeq S (fun _ => #[v, v]) >>= _) _ _ _
  refine wpAny_bind ?_
  refine wpAny_updateSeq hS' rfl (hz := ?hz) ?_
  case hz => simp
  rw [hname]
  refine wpAny_pure ⟨plainId_quiet PySem.F.plain_max_loop _, max_loop kw hi W hSf _ 0 _ v _ rfl hn (W.frame _ _ _ hst' fun b hbf o e => ?_) hP (Heap.get?_update_self _ hS' rfl) fun v' h'' tk'' hP' hk'' => ?_⟩
  · exact (Heap.get?_update_other _ _ (fun h : S = b => hSf (by rw [h]; exact hbf))).trans e
  · exact hR v' h'' tk'' hP' fun b o h e => hk'' b o h ((Heap.get?_update_other _ _ (Ne.symm (hbS h))).trans (hk' b o (hwr h) e))
end
section
variable {prog : Program} {w : World} {A : Around} {E : Value → Shared → Prop} {s : Shared} {items : Array Value} {ns : List Int} {p : Addr}
theorem dflM_args (a d : Value) : argsOk "max" ⟨[a], [(Str.ofString "default", d)]⟩ := by unfold argsOk; kernel_rfl
theorem dflM_bind (d : Value) : Builtin.Builtins.bindParams "max" ["key", "default"] 0 ⟨[], [(Str.ofString "default", d)]⟩ = pure [none, some d] := by rfl
theorem call_maxD {Q : Value → Shared → Prop} {d : Value} (hh : A.handled = none) (hl : s.heap.IsList p items) (hn : 0 < items.size) (hi : ∀ (i : Nat) (v : Value), items[i]? = some v → ∃ t, v = .int (iv ns i) t)
    (hQ : ∀ v h' tk, items[argBest (gtB ns) (items.size - 1)]? = some v → (∀ b o, s.heap.get? b = some o → h'.get? b = some o) → Q v { s with heap := h', toks := tk }) :
    wpAny (model prog w) A (call (.builtin "max") [.ref p] [(Str.ofString "default", d)]) Q E s := by
  have hname : (toString "max" ++ toString ".loop" : String) = "max.loop" := by decide
  have hp : p < s.heap.objs.size := by obtain ⟨o, e, _⟩ := hl; exact Heap.lt_size e
  refine kmk_tree PySem.F.kind_max PySem.F.plain_max PySem.F.entry_max (dflM_args _ _) ?_
  show wpAny _ A.in1 (Builtin.Builtins.bindParams "max" ["key", "default"] 0 ⟨[], [(Str.ofString "default", d)]⟩ >>= _) _ _ s
  refine wpAny_bind (wpAny_of_eq (dflM_bind d) ?_)
  refine wpAny_bind (wpAny_pure ?_)
  refine wpAny_bind (wpAny_pyIter_list hl ?_)
  refine wpAny_bind (wpAny_newObj_type ?_)
  rw [hname]
  have hz : (s.heap.push { cls := .type "list_iterator", data := .fields #[.ref p, .int 0 0] }).objs.size = s.heap.objs.size + 1 := Heap.size_push _ _
  refine wpAny_pure ⟨plainId_quiet PySem.F.plain_max_loop _, max_first (ns := ns) _ hi (Walks.list (by simp [hh]) s.heap.objs.size p (Nat.ne_of_lt hp) items) (by rw [hz]; simp only [List.mem_cons, List.not_mem_nil, or_false, not_or]; exact ⟨(Nat.ne_of_lt (Nat.lt_succ_self _)).symm, (Nat.ne_of_lt (Nat.lt_succ_of_lt hp)).symm⟩) hn
    ⟨⟨_, Heap.get?_push_of_some _ (Heap.get?_push_size _ rfl), rfl, rfl⟩, (hl.push _).push _⟩ (Heap.get?_push_size _ rfl) fun v h' tk hv hk => hQ v h' tk hv fun b o e => ?_⟩
  have ha := Heap.lt_size e
  refine hk b o ?_ (Heap.get?_push_of_some _ (Heap.get?_push_of_some _ e))
  rw [hz]
  simp only [List.mem_cons, List.not_mem_nil, or_false, not_or]
  exact ⟨Nat.ne_of_lt (Nat.lt_succ_of_lt ha), Nat.ne_of_lt ha⟩
end
theorem bestM (ns : List Int) : ∀ k, k < ns.length → argBest (gtB ns) k < ns.length ∧ iv ns (argBest (gtB ns) k) = ((ns.drop 1).take k).foldl gtI (iv ns 0)
  | 0, h => ⟨h, by simp [argBest]⟩
  | k + 1, h => by
    obtain ⟨h1, h2⟩ := bestM ns k (by omega)
    have e : (ns.drop 1).take (k + 1) = (ns.drop 1).take k ++ [iv ns (k + 1)] := by
      rw [List.take_add_one, List.getElem?_drop, Nat.add_comm 1 k]
      simp [h, iv]
    rw [e, List.foldl_append, List.foldl_cons, List.foldl_nil, ← h2]
    simp only [argBest]
    cases hb : gtB ns (k + 1) (argBest (gtB ns) k) with
    | true =>
      have hb' : iv ns (k + 1) > iv ns (argBest (gtB ns) k) := of_decide_eq_true hb
      refine ⟨h, ?_⟩
      unfold gtI
      rw [if_pos hb']
      rfl
    | false =>
      have hb' : ¬ iv ns (k + 1) > iv ns (argBest (gtB ns) k) := of_decide_eq_false hb
      refine ⟨h1, ?_⟩
      unfold gtI
      rw [if_neg hb']
      rfl
theorem ints_at {ns : List Int} {its : List Value} (rv : Vals (ns.map V.int) its) : ∀ (i : Nat) (v : Value), its.toArray[i]? = some v → ∃ t, v = .int (iv ns i) t := by
  intro i v hv
  have hlen : its.length = ns.length := by have := rv.length; simpa using this.symm
  have hv' : its[i]? = some v := by simpa using hv
  have hi : i < its.length := (List.getElem?_eq_some_iff.mp hv').1
  have hi2 : i < ns.length := by omega
  obtain ⟨u, hu, ru⟩ := rv.get (i := i) (x := .int ns[i]) (by simp [hi2])
  rw [hv'] at hu
  cases hu
  obtain ⟨t, rfl⟩ := ru
  exact ⟨t, by simp [iv, hi2]⟩
section
variable {X : Cx} {cls : Nat → Addr} {E : XK} {e dE : Expr} {f g : Rho → M Dt} {pos p kp : Pos}
theorem ev_maxD (hc : X.calm = true) (hg : Gl X "max") (hm : X.mg "max" = none) (ha : Ev X cls E e f) (hst : isStar e = false) (hd : Ev X cls E dE g) :
    Ev X cls E (.Call (.Name "max" p) [e] [⟨some "default", dE, kp⟩] pos) (p2 maxDM f g) := by
  intro pins s σ H Q I ⟨O, A, ρ, F, q⟩
  refine wpAny_Call_Name_kw (ld_blt I hg hm boot_max ?_ (by decide) (by decide))
  refine callWith_kw (e := e) (rest := []) ?_ (by rw [starEach_cons hst]; rfl) (by rw [starEach_cons hst]; rfl) rfl rfl
  rw [starEach_cons hst]
  refine Calls.spliced_cons (x := eval e X.env) (thn (ha pins s σ H (fun x H1 => ∃ d, Same H H1 ∧ Rep X.K (hid H1 A) d x ∧ sm d ∧ Res X.K cls A E ((g ρ).bd (maxDM d)) H1 Q) I ⟨O, A, ρ, F, Rg.bind q fun d _ q1 => ?_⟩) fun u s1 ⟨x, H1, I1, r1, d, sm1, rp, zd, q1⟩ => ?_)
  · intro x H1 s1 r1 z1
    exact ⟨d, s1, r1, z1, Res.mono q1 s1⟩
  refine Calls.spliced_nil (kws_cons (thn (hd pins s1 σ H1 (fun x H2 => ∃ d2, Same H1 H2 ∧ Res X.K cls A E (maxDM d d2) H2 Q) I1 ⟨O, A, ρ, F.mono sm1, Rg.bind q1 fun d2 _ q2 => ?_⟩) fun u2 s2 ⟨x2, H2, I2, r2, d2, sm2, q2⟩ => kws_nil ?_))
  · intro x H2 s2 r2 z2
    exact ⟨d2, s2, Res.mono q2 s2⟩
  show wpAny _ _ (call (.builtin "max") [u] [(Str.ofString "default", u2)]) _ _ _
  cases d with
  | lst ds =>
    obtain ⟨pl, xs, rfl, h1, h2⟩ := repL (rp.mono (sm2.hid A))
    cases r1
    simp only [maxDM] at q2
    cases hp : intsD ds with
    | none => rw [hp] at q2; exact (show False from q2).elim
    | some ns =>
      rw [hp] at q2
      cases ns with
      | nil => exact (show False from q2).elim
      | cons n0 rr =>
        rw [ints_rep hp h2] at h1
        obtain ⟨its, rv, pla, _⟩ := I2.list (hid_same.seq h1)
        have hlen : its.length = (n0 :: rr).length := by have := rv.length; simpa using this.symm
        have hat := ints_at rv
        refine call_maxD (ns := n0 :: rr) (I2.ok.hd hc) pla.isList (by rw [List.size_toArray, hlen]; simp) hat fun v h' tk hv hk => ?_
        obtain ⟨t, rfl⟩ := hat _ v hv
        have hk1 : its.toArray.size - 1 = rr.length := by rw [List.size_toArray, hlen]; simp
        rw [hk1, (bestM (n0 :: rr) rr.length (by simp)).2]
        have e3 : ((n0 :: rr).drop 1).take rr.length = rr := by simp
        rw [e3]
        exact ⟨.int (rr.foldl gtI n0), H2, I2.kept (t' := tk) hk, ⟨t, rfl⟩, q2 _ H2 (.refl _) rep_int trivial⟩
  | _ => exact (show False from q2).elim
end
end L2

set_option Elab.async false
set_option linter.all false
set_option maxRecDepth 100000
set_option maxHeartbeats 4000000
/-! list[::-1] -/
namespace L2
open PySem PySem.Spec PyProof.Rows PySem.W
section
variable {X : Cx} {cls : Nat → Addr} {E : XK} {st : Expr} {f : Rho → M Dt} {pos : Pos}
end
/-! ### startswith -/
section
variable {X : Cx} {cls : Nat → Addr} {E : XK} {a o : Expr} {f : Rho → M Dt} {fs : Rho → M (List Dt)} {pos : Pos}
end
end L2

set_option Elab.async false
set_option linter.all false
set_option maxRecDepth 100000
set_option maxHeartbeats 4000000
/-! while, items of an own list, the place of a sign -/
namespace L2
open PySem PySem.Spec PyProof.Rows PySem.W
section
variable {X : Cx} {cls : Nat → Addr} {E : XK} {a b c o : Expr} {f g : Rho → M Dt} {fs : Rho → M (List Dt)} {s : SM} {pos : Pos}
/-! ### an item of an own list -/
/-! ### the place of a sign -/
end
end L2

set_option Elab.async false
set_option linter.all false
set_option maxRecDepth 100000
set_option maxHeartbeats 4000000
/-! x += text, x -= number, the place and the number of a text in a list, {text!r} -/
namespace L2
open PySem PySem.Spec PyProof.Rows PySem.W
section
variable {X : Cx} {cls : Nat → Addr} {E : XK} {a b c o : Expr} {f g : Rho → M Dt} {fs : Rho → M (List Dt)} {pos : Pos}
/-! ### texts.index, texts.count -/
theorem flat_S : ∀ ls : List (List Nat), (ls.map S).all flatV = true
  | [] => rfl
  | l :: ls => by
    rw [List.map_cons, List.all_cons, flat_S ls]
    rfl
theorem eqV_S (l m : List Nat) : eqV (S l) (S m) = decide (l = m) := by
  show ((⟨l.toArray⟩ : Str) == ⟨m.toArray⟩) = _
  rw [Bool.eq_iff_iff, beq_iff_eq, decide_eq_true_eq]
  constructor
  · intro h
    injection h with h
    simpa using congrArg Array.toList h
  · rintro rfl
    rfl
theorem plainL_obj {h : Heap} {p : Addr} {its : Array Value} (pl : PlainL h p its) : ∃ n sl, h.get? p = some { cls := .type "list", dict := none, data := .seq its n, slots := sl } := by
  obtain ⟨o, n, e, h1, h2, h3⟩ := pl
  refine ⟨n, o.slots, ?_⟩
  rw [e]
  cases o
  simp only at h1 h2 h3
  subst h1 h2 h3
  rfl
theorem mt_countL : MtR X "list.count" (fun x vs H Q => ∃ p xs y, x = .ref p ∧ vs = [y] ∧ SqL X.K H p xs ∧ flatV y = true ∧ xs.all flatV = true ∧ Q (.int (xs.countP fun z => eqV z y)) H) := by
  intro pins s σ H x vs v us Q I rx rv ⟨p, xs, y, ex, ev, hH, fy, fx, q⟩
  subst ex ev
  cases rx
  obtain ⟨u, rfl, ru⟩ := rv.one
  obtain ⟨its, r, pl, hz⟩ := I.list hH
  obtain ⟨n, sl, e⟩ := plainL_obj pl
  refine call_meets F.slot_list_count ⟨_, e, rfl⟩ F.entry_list_count (F.args_list_count_2 _ _) (SeqAt.list_countAt p its.toArray n none sl u (eqU y)) ⟨e, fun w hw => mem_eqAt ru fy r fx w (by simpa using hw), ?_⟩
  refine ⟨.int (xs.countP fun z => eqV z y), H, I.tok _, ⟨s.toks, ?_⟩, q⟩
  rw [← countP_eqU r fx]
theorem tyL {H : Hp} {ds : List Dt} {x : V} (r : Rep X.K H (.lst ds) x) : tyV X.K "list" x H := by
  obtain ⟨p, xs, rfl, h1, _⟩ := repL r
  exact .inl ⟨rfl, xs, h1⟩
theorem cnt_S (l : List Nat) : ∀ ls : List (List Nat), (ls.map S).countP (fun z => eqV z (S l)) = ls.count l
  | [] => rfl
  | m :: ls => by
    rw [List.map_cons, List.countP_cons, cnt_S l ls, eqV_S, List.count_cons]
    congr 1
    by_cases h : m = l
    · simp [h]
    · simp [h]
theorem md_lcnt : MtD X cls E "list" "list.count" mLCnt := by
  refine ⟨_, mt_countL, fun H d k x hk r => ?_, fun A H Q d k x ds vs hk L r z rs zs q => ?_⟩
  · unfold mLCnt at hk
    split at hk
    · exact tyL r
    · cases hk
  · unfold mLCnt at hk
    split at hk
    · rename_i es
      injection hk with hk
      subst hk
      unfold lcA at q
      split at q
      · rename_i l
        obtain ⟨v, rfl, rv⟩ := reps1 rs
        obtain ⟨p, xs, rfl, h1, h2⟩ := repL r
        cases hs : strsM es with
        | none => rw [hs] at q; exact (show False from q).elim
        | some ls =>
          rw [hs] at q
          have hx := strs_rep hs h2
          subst hx
          refine ⟨p, ls.map S, S l, rfl, by rw [repS rv], hid_same.seq h1, rfl, flat_S ls, ?_⟩
          rw [cnt_S]
          exact q _ H (.refl _) rep_int trivial
      · exact (show False from q).elim
    · cases hk
theorem ev_lcnt {apos : Pos} (ho : Ev X cls E o f) (ha : Av X cls E [a] fs) (hst : isStar a = false) (hbase : attributeBase o "count" X.env (eval o X.env) = eval o X.env := by rfl) (hline : (apos.endLine == pos.line) = true := by rfl) : Ev X cls E (.Call (.Attribute o "count" apos) [a] [] pos) (pMeth mLCnt f fs) := by
  have hs : starEach [a] X.env = (false, eval a X.env) :: starEach [] X.env := starEach_cons hst
  exact ev_bm PySem.F.plainAttrs_list PySem.F.slot_list_count PySem.F.type_list_count md_lcnt ho ha hbase (by rw [hs]; rfl) hline hs rfl
/-! ### {text!r} -/
end
end L2

set_option Elab.async false
set_option linter.all false
set_option maxRecDepth 100000
set_option maxHeartbeats 4000000
/-! own lists: by pairs, extended -/
namespace L2
open PySem PySem.Spec PyProof.Rows PySem.W
section
variable {X : Cx} {cls : Nat → Addr} {E : XK} {a b c o : Expr} {f g : Rho → M Dt} {fs : Rho → M (List Dt)} {pos : Pos}
/-- a fresh list gets a name -/
theorem Sto.fresh {K : PySem.W.Frag} {Hin : Hp} {A₀ os : List Addr} {ρ : Rho} {σ : St} {H : Hp} {i : Nat} {ds : List Dt} {p : Addr} {vs : List V} (S : Sto K Hin A₀ os ρ σ H) (hp : H p = none) (r : Reps K (hid H (os ++ A₀)) ds vs) (z : sms ds) (hl : ds.length ≤ 10000) :
    Sto K Hin A₀ (p :: os) (ρ.set i (.own ds)) (σ.set i (some (.ref p))) (upd H p (.lst vs)) := by
  obtain ⟨s0, L0, fr, F⟩ := S
  have hpA : p ∉ os ++ A₀ := F.liv.fresh hp
  have s2 : Same H (upd H p (.lst vs)) := .upd hp
  have hpH : Hin p = none := by
    cases e : Hin p with
    | none => rfl
    | some o => have := s0 p o e; rw [hp] at this; cases this
  have sh : Same (hid H (os ++ A₀)) (hid (upd H p (.lst vs)) ((p :: os) ++ A₀)) := fun b o e => by
    obtain ⟨e1, e2⟩ := of_hid e
    have hb : b ≠ p := ne_of_none e2 hp
    rw [hid_ne]
    · exact s2 b o e2
    · intro z
      rcases List.mem_cons.mp z with z | z
      · exact hb z
      · exact e1 z
  refine ⟨s0.trans s2, L0, fun a ha => ?_, ?_⟩
  · rcases List.mem_cons.mp ha with z | z
    · subst z; exact hpH
    · exact fr a z
  refine ⟨by simp [F.len], fun a ha => ?_, fun a ha => List.mem_append_left _ ha, fun j e he => ?_, fun j es' he => ?_, fun j k ds' es' b hjk e1 e2 e3 e4 => ?_⟩
  · rcases List.mem_cons.mp ha with z | z
    · subst z; rw [upd_same]; simp
    · exact (F.liv.mono s2) a z
  · by_cases hj : j = i
    · subst hj
      have hlt : j < ρ.length := by
        have := (List.getElem?_eq_some_iff.mp he).1
        simpa using this
      rw [List.getElem?_set_self hlt] at he
      cases he
    · rw [List.getElem?_set_ne (Ne.symm hj)] at he ⊢
      obtain ⟨v, e1, e2, e3⟩ := F.val j e he
      exact ⟨v, e1, e2.mono sh, e3⟩
  · by_cases hj : j = i
    · subst hj
      have hlt : j < ρ.length := by
        have := (List.getElem?_eq_some_iff.mp he).1
        simpa using this
      rw [List.getElem?_set_self hlt] at he
      cases he
      exact ⟨p, vs, List.getElem?_set_self (by rw [← F.len]; exact hlt), List.mem_cons_self, upd_same, r.mono sh, z, hl⟩
    · rw [List.getElem?_set_ne (Ne.symm hj)] at he ⊢
      obtain ⟨b, ys, e1, e2, e3, e4, e5⟩ := F.own j es' he
      exact ⟨b, ys, e1, List.mem_cons_of_mem _ e2, s2 _ _ e3, e4.mono sh, e5⟩
  · have oldp : ∀ (m : Nat) gs, m ≠ i → ρ[m]? = some (.own gs) → σ[m]? ≠ some (some (.ref p)) := fun m gs _ e z => by
      obtain ⟨b, ys, e1, e2, e3, _⟩ := F.own m gs e
      rw [z] at e1
      cases e1
      rw [hp] at e3
      cases e3
    by_cases hj : j = i
    · subst hj
      have hk : k ≠ j := Ne.symm hjk
      rw [List.getElem?_set_ne hjk] at e2 e4
      have hlt : j < σ.length := by
        have := (List.getElem?_eq_some_iff.mp e3).1
        simpa using this
      rw [List.getElem?_set_self hlt] at e3
      cases e3
      exact oldp k es' hk e2 e4
    · by_cases hk : k = i
      · subst hk
        rw [List.getElem?_set_ne (Ne.symm hj)] at e1 e3
        have hlt : k < σ.length := by
          have := (List.getElem?_eq_some_iff.mp e4).1
          simpa using this
        rw [List.getElem?_set_self hlt] at e4
        cases e4
        exact oldp j ds' hj e1 e3
      · rw [List.getElem?_set_ne (Ne.symm hj)] at e1 e3
        rw [List.getElem?_set_ne (Ne.symm hk)] at e2 e4
        exact F.apart j k ds' es' b hjk e1 e2 e3 e4
/-! ### extend -/
variable {scope : Scope} {N : List Str} {k : Nat} {fr : List Nat} {tg iter elt : Expr} {ifs : List Expr} {ι : IM} {gm : GM} {tc : Rho → M Bool} {te : Rho → M Dt}
end
end L2

set_option Elab.async false
set_option linter.all false
set_option maxRecDepth 100000
set_option maxHeartbeats 4000000
/-! lambdas: made, called. -/
namespace L2
open PySem PySem.Spec PyProof.Rows PySem.W

/-- what a def that makes lambdas leans on: its code's table, the builtins' module -/
structure LamB (mg : Str → Option Value) (base : Heap) (c P : Addr) : Prop where
  code : CodeHd base c P
  bm : ∃ bm ob, mg "__builtins__" = some (.ref bm) ∧ bm ≠ builtinsNs ∧ base.get? bm = some ob ∧ ob.cls = .type "module" ∧ ob.dict = some builtinsNs ∧ ob.data = .plain

/-- a code record, known -/
def CodeO (H : Hp) (c : Addr) (q : Str) : Prop := ∃ oc u vs t, H c = some (.frz oc u) ∧ oc.data = .fields vs ∧ vs[1]? = some (.str q t)
theorem CodeO.mono {H H' : Hp} {c : Addr} {q : Str} (h : CodeO H c q) (f : ∀ b o u, H b = some (.frz o u) → H' b = some (.frz o u)) : CodeO H' c q := by
  obtain ⟨oc, u, vs, t, h1, h2, h3⟩ := h
  exact ⟨oc, u, vs, t, f _ _ _ h1, h2, h3⟩
section
variable {X : Cx} {pins : List (Addr × Obj)} {σ : St} {H : Hp} {s : Shared} {params : Arguments} {body : Expr} {scope : Scope} {pos : Pos} {c P : Addr} {q : Str}
end

/-! ### the context of a lambda's body -/
section
variable {P : Program} {w : World} {K : PySem.W.Frag} {mg : Str → Option Value} {base : Heap} {N : List Str} {qual : Str} {scope : Scope} {f : Addr} {cd : Value} {cl : List (Str × Addr)} {A : Around} {outer : List Env} {s₀ : Shared} {H₀ : Hp} {E : XK}
end
/-- the scope of a lambda: all its names it takes along (their places in X.N) -/
structure LScope (X : Cx) (scope : Scope) (N : List Str) (fr : List Nat) : Prop where
  c : CScope X scope N 0 fr
  co : scope.isCoroutine = false
  gen : scope.isGenerator = false
  nocell : ∀ x ∈ scope.names, x.2 ≠ .cell
section
variable {X : Cx} {scope : Scope} {N : List Str} {fr : List Nat} {pins : List (Addr × Obj)} {σ : St} {H H2 : Hp} {s s2 : Shared} {A : Around} {outer : List Env} {E : XK} {q : Str} {f : Addr} {cv : Value} {h1 : Heap} {t1 : Nat} {m : Str → Option Value}
end

/-! ### a def runs, also where an exception is being handled -/
end L2

set_option Elab.async false
set_option linter.all false
set_option maxRecDepth 100000
set_option maxHeartbeats 4000000
/-! _law_told(lambda: ..) -/
namespace L2
open PySem PySem.Spec PyProof.Rows PySem.W
/-- what the written part says of a refusal's class C, the j-th of eight: clash, no back, no name, no text, no tick, no wave, too long, unlike -/
structure ClassK (K : PySem.W.Frag) (C c0 c1 c2 c3 c4 c5 c6 c7 : Addr) (j : Nat) : Prop where
  z : ExcK K C
  lt : j < 8
  w0 : kitOne K (.ref C) (.ref c0) = some (j == 0)
  w1 : kitOne K (.ref C) (.ref c1) = some (j == 1)
  w2 : kitOne K (.ref C) (.ref c2) = some (j == 2)
  w3 : kitOne K (.ref C) (.ref c3) = some (j == 3)
  w4 : kitOne K (.ref C) (.ref c4) = some (j == 4)
  w5 : kitOne K (.ref C) (.ref c5) = some (j == 5)
  w6 : kitOne K (.ref C) (.ref c6) = some (j == 6)
  w7 : kitOne K (.ref C) (.ref c7) = some (j == 7)
  ve : kitOne K (.ref C) (.type "ValueError") = some true
section
variable {P : Program} {w : World} {K : PySem.W.Frag} {mg : Str → Option Value} {base : Heap} {cls : Nat → Addr}
end
section
variable {X : Cx} {cls : Nat → Addr} {E : XK} {body : Expr} {g : Rho → M Dt} {params : Arguments} {scope : Scope} {N : List Str} {fr cs : List Nat} {c P : Addr} {q : Str} {k : Nat} {p lpos pos : Pos}
end
end L2

set_option Elab.async false
set_option linter.all false
set_option maxRecDepth 100000
set_option maxHeartbeats 4000000
/-! the law's head where defs make lambdas -/
namespace L2
open PySem PySem.Spec PyProof.Rows PySem.W
/-! ### defs that make lambdas -/
section
variable {P : Program} {w : World} {K : PySem.W.Frag} {mg : Str → Option Value} {base : Heap} {cls : Nat → Addr}
end
end L2

set_option Elab.async false
set_option linter.all false
set_option maxRecDepth 100000
set_option maxHeartbeats 4000000
namespace L2
open PySem PySem.Spec PyProof.Rows PySem.W
section
variable {X : Cx} {cls : Nat → Addr} {E : XK} {a b c o : Expr} {f g : Rho → M Dt} {fs : Rho → M (List Dt)} {pos : Pos}
end
end L2

set_option Elab.async false
set_option linter.all false
set_option maxRecDepth 100000
set_option maxHeartbeats 4000000
/-! loops that a refusal may leave -/
namespace L2
open PySem PySem.Spec PyProof.Rows PySem.W
section
variable {X : Cx} {cls : Nat → Addr} {E : XK} {s : SM} {pos : Pos}
end
end L2

set_option Elab.async false
set_option linter.all false
set_option maxRecDepth 100000
set_option maxHeartbeats 4000000
namespace L2
open PySem PySem.Spec
/-! ### facts of the tables -/
theorem siOwner : Manifest.owners.lookup (String.ofList ['r', 'o', 't', 'a', 'r', 'e', 't', 'i', '_', 't', 'e', 's'].reverse) = some Manifest.sig_set_iterator := by kernel_rfl
theorem seOwner : Manifest.owners.lookup (String.ofList ['t', 'e', 's'].reverse) = some Manifest.sig_set := by kernel_rfl
theorem siNext : Slot "set_iterator" "__next__" "set_iterator.__next__" := by
  refine .of (owner := "set_iterator") (n := "__next__") ?_ ?_ ?_ ?_ ?_ ?_
  · rw [typeLookup_type, builtinLookup_eq_fast]
    kernel_rfl
  · decide +kernel
  · decide +kernel
  · decide +kernel
  · first
    | exact .inl (by decide +kernel)
    | exact .inr (by decide +kernel)
  · rw [isSubtype_type]
    kernel_rfl
theorem seIter : Slot "set" "__iter__" "set.__iter__" := by
  refine .of (owner := "set") (n := "__iter__") ?_ ?_ ?_ ?_ ?_ ?_
  · rw [typeLookup_type, builtinLookup_eq_fast]
    kernel_rfl
  · decide +kernel
  · decide +kernel
  · decide +kernel
  · first
    | exact .inl (by decide +kernel)
    | exact .inr (by decide +kernel)
  · rw [isSubtype_type]
    kernel_rfl
theorem siNextE : entryFor table "set_iterator.__next__" = some Builtin.«set_iterator.__next__» := by
  apply entryFor_of_tree
  kernel_rfl
theorem seIterE : entryFor table "set.__iter__" = some Builtin.«frozenset.__iter__» := by
  apply entryFor_alias (id' := "frozenset.__iter__")
  · kernel_rfl
  · first
    | rfl
    | decide +kernel
    | (unfold String.splitOn; simp +decide [String.splitOnAux])
  · decide +kernel
  · kernel_rfl
theorem siNextA (a : Value) : argsOk "set_iterator.__next__" ⟨[a], []⟩ := by
  unfold argsOk
  rw [signature?_of (id := "set_iterator.__next__") (n := ['_', '_', 't', 'x', 'e', 'n', '_', '_']) (o := ['r', 'o', 't', 'a', 'r', 'e', 't', 'i', '_', 't', 'e', 's']) (by kernel_rfl) siOwner]
  kernel_rfl
theorem seIterA (a : Value) : argsOk "set.__iter__" ⟨[a], []⟩ := by
  unfold argsOk
  rw [signature?_of (id := "set.__iter__") (n := ['_', '_', 'r', 'e', 't', 'i', '_', '_']) (o := ['t', 'e', 's']) (by kernel_rfl) seOwner]
  kernel_rfl
theorem siIter : Slot "set_iterator" "__iter__" "set_iterator.__iter__" := by
  refine .of (owner := "set_iterator") (n := "__iter__") ?_ ?_ ?_ ?_ ?_ ?_
  · rw [typeLookup_type, builtinLookup_eq_fast]
    kernel_rfl
  · decide +kernel
  · decide +kernel
  · decide +kernel
  · first
    | exact .inl (by decide +kernel)
    | exact .inr (by decide +kernel)
  · rw [isSubtype_type]
    kernel_rfl
theorem siIterE : entryFor table "set_iterator.__iter__" = some Builtin.«dict_keyiterator.__iter__» := by
  apply entryFor_alias (id' := "dict_keyiterator.__iter__")
  · kernel_rfl
  · first
    | rfl
    | decide +kernel
    | (unfold String.splitOn; simp +decide [String.splitOnAux])
  · decide +kernel
  · kernel_rfl
theorem siIterA (a : Value) : argsOk "set_iterator.__iter__" ⟨[a], []⟩ := by
  unfold argsOk
  rw [signature?_of (id := "set_iterator.__iter__") (n := ['_', '_', 'r', 'e', 't', 'i', '_', '_']) (o := ['r', 'o', 't', 'a', 'r', 'e', 't', 'i', '_', 't', 'e', 's']) (by kernel_rfl) siOwner]
  kernel_rfl
theorem seLen : typeLookup (.type "set") "__len__" = pure (some (.builtin "set.__len__")) := by
  rw [typeLookup_type, builtinLookup_eq_fast]
  kernel_rfl
theorem seSub : isSubtype (.type "set") (.type "set") = pure true := by
  rw [isSubtype_type]
  kernel_rfl
/-! ### orders -/
theorem erase_perm {α : Type} : ∀ {l : List α} {i : Nat} (h : i < l.length), (l[i] :: l.eraseIdx i).Perm l
  | x :: l, 0, _ => .refl _
  | x :: l, i + 1, h => by
    have hi : i < l.length := by simpa using h
    rw [List.getElem_cons_succ, List.eraseIdx_cons_succ]
    exact (List.Perm.swap ..).trans ((erase_perm hi).cons x)
theorem pick_go {α : Type} (next : Nat → Nat) : ∀ (n k : Nat) (left : List α) (out : Array α), left.length = n → (pickOrder.go next n k left out).toList.Perm (out.toList ++ left)
  | 0, k, left, out, h => by
    rw [List.length_eq_zero_iff.mp h, List.append_nil]
    exact .refl _
  | n + 1, k, left, out, h => by
    unfold pickOrder.go
    have hlt : next k % left.length < left.length := Nat.mod_lt _ (by omega)
    rw [List.getElem?_eq_getElem hlt]
    dsimp only
    refine (pick_go next n (k + 1) _ _ (by rw [List.length_eraseIdx, if_pos hlt]; omega)).trans ?_
    rw [Array.toList_push, List.append_assoc]
    refine List.Perm.append_left _ ?_
    exact erase_perm hlt
theorem pick_perm {α : Type} (next : Nat → Nat) (xs : Array α) : (pickOrder next xs).toList.Perm xs.toList := by
  have := pick_go next xs.size 0 xs.toList #[] (by simp)
  simpa [pickOrder] using this
theorem wpAny_choose' {M : Model} {A : Around} {E : Value → Shared → Prop} {src : Source} {n : Nat} {s : Shared} {Q : Nat → Shared → Prop} (hn : 0 < n) (h : ∀ i, i < n → ∀ d, Q i { s with drawn := d }) : wpAny M A (choose src n) Q E s :=
  fun _ _ _ => ⟨by omega, h _ (Nat.mod_lt _ hn) _⟩
theorem drawOrder_any {α : Type} {M : Model} {A : Around} {E : Value → Shared → Prop} : ∀ (n : Nat) (xs : List α) (s : Shared) (Q : List α → Shared → Prop), xs.length = n → (∀ ys d, ys.Perm xs → Q ys { s with drawn := d }) → wpAny M A (drawOrder n xs) Q E s
  | 0, xs, s, Q, h, q => by
    rw [List.length_eq_zero_iff.mp h] at q ⊢
    exact wpAny_pure (q [] s.drawn (.refl _))
  | n + 1, [], s, Q, h, q => by cases h
  | n + 1, x :: xs, s, Q, h, q => by
    unfold drawOrder
    refine wpAny_bind (wpAny_choose' (by simp) fun i hi d => ?_)
    rw [List.getElem?_eq_getElem hi]
    dsimp only
    refine wpAny_bind (drawOrder_any n _ _ _ (by rw [List.length_eraseIdx, if_pos hi]; simp at h ⊢; omega) fun ys d' hp => wpAny_pure ?_)
    exact q _ d' ((hp.cons _).trans (erase_perm hi))
end L2

set_option Elab.async false
set_option linter.all false
set_option maxRecDepth 100000
set_option maxHeartbeats 4000000
namespace L2
open PySem PySem.Spec
/-! ### a set's table: led as at first, not plain once a text is in -/
theorem lay_led (t : SetTable) (es : Array (Int × Value)) (h : Int) (x : Value) : (layNew t es h x).2.1.led = t.led ∧ ((layNew t es h x).2.1.plain = true → t.plain = true) := by
  unfold layNew
  split
  · dsimp only
    unfold SetTable.orStandIn
    split
    · exact ⟨rfl, id⟩
    · exact ⟨rfl, fun z => by cases z⟩
  · exact ⟨rfl, fun z => by cases z⟩
theorem relay_led (t : SetTable) (es : Array (Int × Value)) (n : Nat) : (relayAll t es n).2.1.led = t.led ∧ ((relayAll t es n).2.1.plain = true → t.plain = true) := by
  unfold relayAll
  split
  · rename_i t' order e
    dsimp only
    split
    · dsimp only
      unfold SetTable.relaid SetTable.laid at e
      simp only [Option.bind_eq_bind, Option.bind_eq_some_iff, Option.pure_def, Option.some.injEq] at e
      obtain ⟨_, _, e⟩ := e
      injection e with e1 e2
      subst e1
      exact ⟨rfl, id⟩
    · exact ⟨rfl, fun z => by cases z⟩
  · exact ⟨rfl, fun z => by cases z⟩
abbrev stO (es : Array (Int × Value)) (ep : Nat) (t : SetTable) : Obj := { cls := .type "set", dict := none, data := .set es ep t }
section
variable {prog : Program} {w : World} {A : Around} {E : Value → Shared → Prop} {s : Shared} {K : Type} [DecidableEq K] {knd : KeyKind prog w K}
/-- an element comes in, or is there -/
theorem addT {a : Addr} {es : Array (Int × Value)} {ep : Nat} {t : SetTable} {k : K} {x : Value} {Q : Bool → Shared → Prop} (hkey : knd.is k x = true) (hsc : x.scannable = true) (hbv : hashByValue 8 x = pure false)
    (ho : s.heap.get? a = some (stO es ep t)) (hel : ElemsOf knd es.toList) (hb : es.size + 1 < scanBound) (hf : t.fits es.size = true) (hpl : 1 ≤ es.size → t.plain = false)
    (h : ∀ (r : Bool) (h' : Heap) (es' : Array (Int × Value)) (ep' : Nat) (t' : SetTable), Heap.SameBut a s.heap h' → h'.get? a = some (stO es' ep' t') → ((es' = es ∧ ∃ e ∈ es.toList, knd.is k e.2 = true) ∨ (es'.toList.Perm (es.toList ++ [(knd.hash k, x)]) ∧ ∀ e ∈ es.toList, knd.is k e.2 = false)) →
      ElemsOf knd es'.toList → t'.fits es'.size = true → t'.led = t.led → (1 ≤ es'.size → t'.plain = false) → Q r { s with heap := h' }) :
    wpAny (model prog w) A (setAddHashed a x (knd.hash k)) Q E s := by
  have hd : (stO es ep t).data = .set es ep t := rfl
  unfold setAddHashed
  refine wpAny_holding ?_
  unfold setAddHashedIn
  refine wpAny_bind (wpAny_setState_of ho hd hf ?_)
  dsimp only
  rw [if_pos (byScan_of hsc (by omega) hel)]
  refine wpAny_bind ?_
  unfold setAddByScan
  refine wpAny_bind (wpAny_rule (wpAny_bind (wpAny_setScan_of hkey ho hd hf hel ?_)))
  cases hr : es.toList.findIdx? (fun e => knd.is k e.2) with
  | some j =>
    obtain ⟨hj, hpj, _⟩ := List.findIdx?_eq_some_iff_getElem.mp hr
    refine wpAny_pure (wpAny_pure ?_)
    exact h _ s.heap es ep t (.refl ..) ho (.inl ⟨rfl, _, List.getElem_mem hj, hpj⟩) hel hf rfl hpl
  | none =>
    have hno : ∀ e ∈ es.toList, knd.is k e.2 = false := fun e he => by simpa using List.findIdx?_eq_none_iff.mp hr e he
    have gw : ∀ (b : Bool) {s₁ : Shared} {Q' : Unit → Shared → Prop}, Q' () s₁ → wpAny (model prog w) A (match b with | true => rule "set.scan.the-table-gave-way" | false => pure ()) Q' E s₁ := fun b s₁ Q' q => by
      cases b
      · exact wpAny_pure q
      · exact wpAny_rule q
    have pm := layNew_perm t es (knd.hash k) x
    have ft := layNew_fits t es (knd.hash k) x
    have ld := lay_led t es (knd.hash k) x
    generalize layNew t es (knd.hash k) x = L at pm ft ld ⊢
    obtain ⟨es1, t1, wd, gv⟩ := L
    dsimp only at pm ft ld ⊢
    rw [Array.toList_push] at pm
    have sz : es1.size = es.size + 1 := by rw [← Array.length_toList, pm.length_eq]; simp
    have el1 : ElemsOf knd es1.toList := (hel.push hkey hsc).perm pm
    refine wpAny_bind (gw _ ?_)
    have tail : ∀ t2 : SetTable, t2.fits es1.size = true → t2.led = t.led → t2.plain = false → wpAny (model prog w) A (do
        storeSet a es1 t2
        if (!wd && t2.tooFull) = true then do
            (match (relayAll t2 es1 (SetTable.grown es1.size)).2.2 with | true => rule "set.scan.the-table-gave-way" | false => pure ())
            storeSet a (relayAll t2 es1 (SetTable.grown es1.size)).1 (relayAll t2 es1 (SetTable.grown es1.size)).2.1
            pure (some true)
          else pure (some true)) (fun r s' => wpAny (model prog w) A (match r with | some added => pure added | none => setAddHashedIn a x (knd.hash k) 99999) Q E s') E s := by
      intro t2 f2 l2 p2
      have pb : es1.size < scanBound := by omega
      refine wpAny_bind (wpAny_storeSet_of ho hd ?_ (fits_of_scanBound pb))
      have o1 : ∃ ep1, (s.heap.update a (Obj.putSet es1 t2)).get? a = some (stO es1 ep1 t2) := ⟨_, Heap.get?_update_self _ ho rfl⟩
      obtain ⟨ep1, o1⟩ := o1
      have sb1 := Heap.SameBut.update s.heap a (Obj.putSet es1 t2)
      split
      · have rp := relayAll_perm t2 es1 (SetTable.grown es1.size)
        have rf := relayAll_fits t2 es1 (SetTable.grown es1.size)
        have rl := relay_led t2 es1 (SetTable.grown es1.size)
        generalize relayAll t2 es1 (SetTable.grown es1.size) = Rl at rp rf rl ⊢
        obtain ⟨es2, t3, gv2⟩ := Rl
        dsimp only at rp rf rl ⊢
        have sz2 : es2.size = es1.size := by rw [← Array.length_toList, rp.length_eq, Array.length_toList]
        refine wpAny_bind (gw _ ?_)
        refine wpAny_bind (wpAny_storeSet_of o1 rfl ?_ (fits_of_scanBound (by omega)))
        obtain ⟨ep2, o2⟩ : ∃ ep2, ((s.heap.update a (Obj.putSet es1 t2)).update a (Obj.putSet es2 t3)).get? a = some (stO es2 ep2 t3) := ⟨_, Heap.get?_update_self _ o1 rfl⟩
        refine wpAny_pure (wpAny_pure ?_)
        refine h _ _ es2 ep2 t3 (sb1.trans (Heap.SameBut.update _ a _)) o2 (.inr ⟨rp.trans pm, hno⟩) (el1.perm rp) rf (rl.1.trans l2) fun _ => ?_
        cases z : t3.plain with
        | false => rfl
        | true => rw [rl.2 z] at p2; cases p2
      · refine wpAny_pure (wpAny_pure ?_)
        exact h _ _ es1 ep1 t2 sb1 o1 (.inr ⟨pm, hno⟩) el1 f2 l2 fun _ => p2
    split
    · refine wpAny_bind ?_
      rw [hbv]
      refine wpAny_pure ?_
      exact tail { t1 with plain := false } (SetTable.fits_plain_off ft) ld.1 rfl
    · rename_i np
      refine wpAny_bind (wpAny_pure ?_)
      exact tail t1 ft ld.1 (by simpa using np)
end
end L2

set_option Elab.async false
set_option linter.all false
set_option maxRecDepth 100000
set_option maxHeartbeats 4000000
namespace L2
open PySem PySem.Spec PyProof.Rows PySem.W
theorem dup_le' {α : Type} [DecidableEq α] (l : List α) (n : Nat) (h : l.length ≤ n) : l.eraseDups.length ≤ n := Nat.le_trans (dup_le l.length l rfl) h
theorem paired_perm {α β : Type} {R : α → β → Prop} : ∀ {l l' : List β}, l.Perm l' → ∀ {ks : List α}, Paired R ks l → ∃ ks', Paired R ks' l' ∧ ks'.Perm ks
  | _, _, .nil, _, p => ⟨_, p, .refl _⟩
  | _, _, .cons x h, _, .cons r t => by
    obtain ⟨ks', h1, h2⟩ := paired_perm h t
    exact ⟨_, .cons r h1, h2.cons _⟩
  | _, _, .swap x y l, _, .cons r1 (.cons r2 t) => ⟨_, .cons r2 (.cons r1 t), .swap ..⟩
  | _, _, .trans h1 h2, _, p => by
    obtain ⟨ks1, a1, a2⟩ := paired_perm h1 p
    obtain ⟨ks2, b1, b2⟩ := paired_perm h2 a1
    exact ⟨ks2, b1, b2.trans a2⟩
theorem paired_snoc1 {α β : Type} {R : α → β → Prop} : ∀ {ks : List α} {l : List β}, Paired R ks l → ∀ {k : α} {x : β}, R k x → Paired R (ks ++ [k]) (l ++ [x])
  | _, _, .nil, _, _, r => .cons r .nil
  | _, _, .cons r t, _, _, r' => .cons r (paired_snoc1 t r')
theorem paired_mem {α β : Type} {R : α → β → Prop} : ∀ {ks : List α} {l : List β}, Paired R ks l → ∀ {x : β}, x ∈ l → ∃ k ∈ ks, R k x
  | _, _, .cons r t, x, h => by
    rcases List.mem_cons.mp h with rfl | h
    · exact ⟨_, List.mem_cons_self, r⟩
    · obtain ⟨k, hk, rk⟩ := paired_mem t h
      exact ⟨k, List.mem_cons_of_mem _ hk, rk⟩
theorem paired_memL {α β : Type} {R : α → β → Prop} : ∀ {ks : List α} {l : List β}, Paired R ks l → ∀ {k : α}, k ∈ ks → ∃ x ∈ l, R k x
  | _, _, .cons r t, x, h => by
    rcases List.mem_cons.mp h with rfl | h
    · exact ⟨_, List.mem_cons_self, r⟩
    · obtain ⟨k, hk, rk⟩ := paired_memL t h
      exact ⟨k, List.mem_cons_of_mem _ hk, rk⟩
section
variable {prog : Program} {w : World} {K : Type} [DecidableEq K] (knd : KeyKind prog w K)
/-- a set of the keys ks; its table is led as told, and not plain once something is in -/
def SetX (h : Heap) (a : Addr) (ks : List K) (led : Bool) : Prop :=
  ∃ es ep t kl, h.get? a = some (stO es ep t) ∧ ElemsOf knd es.toList ∧ Paired (fun k (e : Int × Value) => knd.is k e.2 = true) kl es.toList ∧ kl.Perm ks.eraseDups ∧ es.size < scanBound ∧ t.fits es.size = true ∧ t.led = led ∧ (1 ≤ es.size → t.plain = false)
end
section
variable {prog : Program} {w : World} {A : Around} {E : Value → Shared → Prop} {s : Shared} {K : Type} [DecidableEq K] {knd : KeyKind prog w K}
theorem SetX.at {h h' : Heap} {a : Addr} {ks : List K} {led : Bool} (x : SetX knd h a ks led) (k : ∀ o, h.get? a = some o → h'.get? a = some o) : SetX knd h' a ks led := by
  obtain ⟨es, ep, t, kl, ho, r⟩ := x
  exact ⟨es, ep, t, kl, k _ ho, r⟩
theorem SetX.size {h : Heap} {a : Addr} {ks : List K} {led : Bool} (x : SetX knd h a ks led) : ∃ o, h.get? a = some o ∧ o.cls = .type "set" := by
  obtain ⟨es, ep, t, kl, ho, r⟩ := x
  exact ⟨_, ho, rfl⟩
theorem addX {a : Addr} {ks : List K} {led : Bool} {k : K} {x : Value} {Q : Bool → Shared → Prop} (hkey : knd.is k x = true) (hsc : x.scannable = true) (hbv : hashByValue 8 x = pure false) (hS : SetX knd s.heap a ks led) (hb : ks.eraseDups.length + 1 < scanBound)
    (h : ∀ (r : Bool) (h' : Heap), Heap.SameBut a s.heap h' → SetX knd h' a (ks ++ [k]) led → Q r { s with heap := h' }) : wpAny (model prog w) A (setAddHashed a x (knd.hash k)) Q E s := by
  obtain ⟨es, ep, t, kl, ho, hel, hp, pm, hsz, hf, hl, hpl⟩ := hS
  have len : es.size = ks.eraseDups.length := by
    rw [← pm.length_eq, ← Array.length_toList]
    exact hp.length.symm
  refine addT hkey hsc hbv ho hel (by omega) hf hpl fun r h' es' ep' t' sb ho' cs el' ft' ld' pl' => h r h' sb ?_
  rcases cs with ⟨rfl, e, he, hk⟩ | ⟨pe, hno⟩
  · obtain ⟨k', hk', r'⟩ := paired_mem hp he
    have := knd.inj _ _ _ hk r'
    subst this
    have hm : k ∈ ks := by
      have := pm.mem_iff.mp hk'
      simpa using this
    have ed : (ks ++ [k]).eraseDups = ks.eraseDups := by
      rw [List.eraseDups_append]
      have : [k].removeAll ks = [] := by simp [List.removeAll, hm]
      rw [this]
      simp
    exact ⟨es', ep', t', kl, ho', el', hp, by rw [ed]; exact pm, hsz, ft', ld'.trans hl, pl'⟩
  · have hm : k ∉ ks := fun z => by
      have : k ∈ kl := pm.mem_iff.mpr (by simpa using z)
      obtain ⟨e, he, hk⟩ := paired_memL hp this
      rw [hno e he] at hk
      cases hk
    have ed : (ks ++ [k]).eraseDups = ks.eraseDups ++ [k] := by
      rw [List.eraseDups_append]
      have : [k].removeAll ks = [k] := by simp [List.removeAll, hm]
      rw [this]
      rfl
    have hp2 : Paired (fun k (e : Int × Value) => knd.is k e.2 = true) (kl ++ [k]) (es.toList ++ [(knd.hash k, x)]) := paired_snoc1 hp hkey
    obtain ⟨kl', a1, a2⟩ := paired_perm pe.symm hp2
    have sz' : es'.size = es.size + 1 := by rw [← Array.length_toList, pe.length_eq]; simp
    exact ⟨es', ep', t', kl', ho', el', a1, by rw [ed]; exact a2.trans (pm.append_right _), by omega, ft', ld'.trans hl, pl'⟩
end
section
variable {prog : Program} {w : World} {A : Around} {R : Result → Shared → Prop} {I S : Addr} {fp wr : List Addr} {St : Nat → Heap → Prop} {Kt : Type} [DecidableEq Kt] {knd : KeyKind prog w Kt} {led : Bool}
theorem set_fillX {items : Array Value} {ks0 ks : List Kt} (hk : ∀ (i : Nat) (v : Value), items[i]? = some v → ∃ k, ks[i]? = some k ∧ knd.is k v = true ∧ v.scannable = true ∧ hashByValue 8 v = pure false)
    (W : Walks prog w A.in1 I fp wr items.size (fun i v => items[i]? = some v) St) (hSf : S ∉ fp) (hn : ks.length = items.size) (hb : ks0.length + items.size + 1 < scanBound) :
    ∀ (m i : Nat) (s : Shared), items.size - i = m → i ≤ items.size → St i s.heap → SetX knd s.heap S (ks0 ++ ks.take i) led →
      (∀ h' tk, (∀ b o, b ≠ S → b ∉ wr → s.heap.get? b = some o → h'.get? b = some o) → SetX knd h' S (ks0 ++ ks) led → R (.ok (.ret .none)) { s with heap := h', toks := tk }) →
      codeAny (model prog w) A (.builtin "set.update.loop" ⟨[.ref S, .ref I], []⟩) R s := by
  have hSw : S ∉ wr := fun h => hSf (W.sub _ h)
  intro m
  induction m with
  | zero =>
    intro i s hm hi hst hS hR
    obtain rfl : i = items.size := by omega
    refine codeAny_builtin PyProof.Rows.F.entry_set_update_loop ?_
    rw [Around.under_plainId PyProof.Rows.F.plain_set_update_loop _]
    show wpAny _ A.in1 (pyNext (.ref I) >>= _) _ _ s
    refine wpAny_bind (W.done s _ _ hst fun h' tk k' => ?_)
    rw [← hn, List.take_length] at hS
    exact wpAny_pure (hR h' tk (fun b o _ hb e => k' b o hb e) (hS.at fun o e => k' S _ hSw e))
  | succ m ih =>
    intro i s hm hi hst hS hR
    have hlt : i < items.size := by omega
    refine codeAny_builtin PyProof.Rows.F.entry_set_update_loop ?_
    rw [Around.under_plainId PyProof.Rows.F.plain_set_update_loop _]
    show wpAny _ A.in1 (pyNext (.ref I) >>= _) _ _ s
    refine wpAny_bind (W.item i s _ _ hlt hst fun v h1 tk1 hP hst1 k1 => ?_)
    obtain ⟨k, hki, hkv, hsc, hbv⟩ := hk i v hP
    have hS1 : SetX knd h1 S (ks0 ++ ks.take i) led := hS.at fun o e => k1 S _ hSw e
    show wpAny _ A.in1 (holding [v] (setAdd S v) >>= _) _ _ _
    refine wpAny_bind (wpAny_holding ?_)
    unfold setAdd
    refine wpAny_holding (wpAny_bind (knd.pyHash hkv ?_))
    have hl : (ks0 ++ ks.take i).eraseDups.length ≤ ks0.length + i := dup_le' _ _ (by rw [List.length_append, List.length_take]; omega)
    refine addX (s := { s with heap := h1, toks := _ }) hkv hsc hbv hS1 (by omega) fun _ h2 hs2 hS2 => ?_
    have ht : ks.take (i + 1) = ks.take i ++ [k] := by rw [List.take_add_one, hki]; rfl
    rw [List.append_assoc, ← ht] at hS2
    refine wpAny_pure ⟨plainId_quiet PyProof.Rows.F.plain_set_update_loop _, ih (i + 1) _ (by omega) hlt (W.frame _ _ _ hst1 fun b hb o e => ?_) hS2 fun h3 tk3 k3 hS4 => ?_⟩
    · exact (hs2.2 b (fun z => hSf (z ▸ hb))).trans e
    · exact hR h3 tk3 (fun b o hbS hbw e => k3 b o hbS hbw ((hs2.2 b hbS).trans (k1 b o hbw e))) hS4
end
end L2

set_option Elab.async false
set_option linter.all false
set_option maxRecDepth 100000
set_option maxHeartbeats 4000000
namespace L2
open PySem PySem.Spec PyProof.Rows PySem.W
abbrev ledW (w : World) : Bool := !w.params.followText "set-order"
section
variable {prog : Program} {w : World} {A : Around} {E : Value → Shared → Prop} {s : Shared} {Kt : Type} [DecidableEq Kt] {knd : KeyKind prog w Kt}
theorem set_newX (a : Value) {Q₁ : Value → Shared → Prop} (h : Q₁ (.ref s.heap.objs.size) { s with heap := s.heap.push (setO (ledW w)) }) :
    codeAny (model prog w) A (.call (.builtin "set.__new__") ⟨[.type "set", a], []⟩) (wants Q₁ E) s := by
  refine codeAny_of_tree ?_
  show wpAny _ A.in1 (do checkBuiltinCall "set.__new__" ⟨[.type "set", a], []⟩
                         again (.builtin "set.__new__" ⟨[.type "set", a], []⟩)) _ _ s
  refine wpAny_bind (wpAny_of_eq (PySem.F.newCall_set_1 a) (wpAny_pure ⟨plainId_quiet PySem.F.plain_set_new _, ?_⟩))
  refine codeAny_builtin PySem.F.entry_set_new ?_
  rw [Around.under_plainId PySem.F.plain_set_new _]
  unfold Builtin.«set.__new__»
  unfold Builtin.Frozenset.newClass
  have hsub := seSub
  obtain ⟨hp, g, d, tk, os⟩ := s
  dsimp only
  wp_walk
  refine wpAny_askSetting (wpAny_pure ?_)
  dsimp only
  simp only [newObj]
  refine wpAny_bind (wpAny_alloc (wpAny_pure ?_))
  exact wpAny_pure h
/-- set(l) of a list whose items are keys -/
theorem set_of_listX {l : Addr} {items : Array Value} {ks : List Kt} {Q : Value → Shared → Prop} (hh : A.handled = none) (hl : s.heap.IsList l items)
    (hk : ∀ (i : Nat) (v : Value), items[i]? = some v → ∃ k, ks[i]? = some k ∧ knd.is k v = true ∧ v.scannable = true ∧ hashByValue 8 v = pure false) (hn : ks.length = items.size) (hb : items.size + 1 < scanBound)
    (h : ∀ (h' : Heap) (tk : Nat), SetX knd h' s.heap.objs.size ks (ledW w) → (∀ b o, s.heap.get? b = some o → h'.get? b = some o) → Q (.ref s.heap.objs.size) { s with heap := h', toks := tk }) :
    wpAny (model prog w) A (call (.type "set") [.ref l]) Q E s := by
  obtain ⟨c, tl, hmro⟩ := PySem.F.called_set.mro
  have hmade := PySem.F.called_set.made
  have hsub := PySem.F.called_set.sub
  refine wpAny_call (codeAny_of_tree ?_)
  show wpAny _ _ (callAny (.type "set") _) _ _ _
  refine wpAny_pure ⟨Code.quiet_builtin _ (by decide +kernel), codeAny_builtin PySem.F.entry_type_call ?_⟩
  rw [Around.under_plain (weight_type_call_type "set" [.ref l] []) rfl]
  have h1 := PySem.F.called_set.notType
  have h2 := PySem.F.called_set.canCreate
  have hct := PySem.F.typeCall_set_1 (.ref l)
  repeat (any_goals (first | assumption | wp_step))
  refine codeAny_mono (set_newX (.ref l) (E := E) (Q₁ := fun obj s1 => obj = .ref s.heap.objs.size ∧ s1 = { s with heap := s.heap.push (setO (ledW w)) }) ⟨rfl, rfl⟩) fun r s1 hr => ?_
  match r, hr with
  | .error e, hr => exact hr
  | .ok (.ret obj), hr =>
    obtain ⟨rfl, rfl⟩ := hr
    have hS : (s.heap.push (setO (ledW w))).get? s.heap.objs.size = some (setO (ledW w)) := Heap.get?_push_size _ rfl
    have hT : Shared.TypeIs { s with heap := s.heap.push (setO (ledW w)) } (.ref s.heap.objs.size) "set" := ⟨_, hS, rfl⟩
    have hli := PySem.F.called_set.init.lookup
    have hbi := PySem.F.called_set.init.bind (.ref s.heap.objs.size)
    repeat (any_goals (first | assumption | wp_step))
    refine codeAny_mono (codeAny_call_builtin (R := wants (fun r s2 => r = .none ∧ ∃ h' tk, s2 = { s with heap := h', toks := tk } ∧ SetX knd h' s.heap.objs.size ks (ledW w) ∧ ∀ b o, s.heap.get? b = some o → h'.get? b = some o) E)
      PySem.F.called_set.init.plain PySem.F.entry_set_init (check_set_init_1 hT ?_)) fun r2 s2 hr2 => ?_
    · obtain ⟨⟨oc, od, odt, os⟩, hol, hcl, nl, hdl⟩ := hl
      simp only at hcl hdl
      subst hcl hdl
      have hol1 : (s.heap.push (setO (ledW w))).get? l = some { cls := .type "list", dict := od, data := .seq items nl, slots := os } := Heap.get?_push_of_some _ hol
      have hl1 : (s.heap.push (setO (ledW w))).IsList l items := ⟨_, hol1, rfl, nl, rfl⟩
      have hsls := PySem.F.sub_list_set
      have hslf := PySem.F.sub_list_frozenset
      have hne : (Value.type "list" == Value.type "dict") = false := by decide
      have hlS : l < s.heap.objs.size := Heap.lt_size hol
      unfold Builtin.«set.__init__» noKeywords Builtin.Frozenset.updateFrom
      generalize hPI : pyIter = PI
      wp_walk
      subst hPI
      refine wpAny_pyIter_list hl1 (wpAny_bind (wpAny_runValue ?_))
      have hz : (s.heap.push (setO (ledW w))).objs.size = s.heap.objs.size + 1 := Heap.size_push _ _
      refine set_fillX (knd := knd) (ks0 := []) (led := ledW w) hk (Walks.list (by simp [hh]) (s.heap.push (setO (ledW w))).objs.size l (by rw [hz]; exact Nat.ne_of_lt (Nat.lt_succ_of_lt hlS)) items) (S := s.heap.objs.size) (by rw [hz]; simp only [List.mem_cons, List.not_mem_nil, or_false, not_or]; exact ⟨Nat.ne_of_lt (Nat.lt_succ_self _), (Nat.ne_of_lt hlS).symm⟩) hn (by simpa using hb) (items.size - 0) 0 _ rfl (Nat.zero_le _) ⟨⟨_, Heap.get?_push_size _ rfl, rfl, rfl⟩, hl1.push _⟩ ?_ fun h' tk hk' hS' => ?_
      · exact ⟨#[], 0, _, [], Heap.get?_push_of_some _ hS, (fun e he => by simp at he), .nil, .nil, by decide, rfl, rfl, fun z => absurd z (by simp)⟩
      · refine wpAny_pure (wpAny_pure ⟨rfl, h', tk, rfl, hS', fun b o e => ?_⟩)
        have hb' := Heap.lt_size e
        exact hk' b o (Nat.ne_of_lt hb') (by rw [hz]; simp only [List.mem_cons, List.not_mem_nil, or_false]; exact Nat.ne_of_lt (Nat.lt_succ_of_lt hb')) (Heap.get?_push_of_some _ (Heap.get?_push_of_some _ e))
    · match r2, hr2 with
      | .error e, hr2 => exact hr2
      | .ok (.ret r), hr2 =>
        obtain ⟨rfl, h', tk, rfl, hS', hk'⟩ := hr2
        repeat (any_goals (first | assumption | wp_step))
        exact h _ _ hS' hk'
end
end L2

set_option Elab.async false
set_option linter.all false
set_option maxRecDepth 100000
set_option maxHeartbeats 4000000
namespace L2
open PySem PySem.Spec PyProof.Rows PySem.W
def siO (first : Value) (i : Nat) (S : Addr) (n ep : Nat) : Obj := { cls := .type "set_iterator", data := .fields #[first, rawInt i, .ref S, rawInt n, rawInt ep] }
/-- how the iterator knows what comes: T is its tuple of places (where it has one) -/
inductive ItM (w : World) (S : Addr) (es : Array (Int × Value)) (ep : Nat) (t : SetTable) (h : Heap) (T : Addr) : Value → Nat → List Value → Prop where
  | text (k i : Nat) (e : w.params.followText "set-order" = true) : ItM w S es ep t h T (rawInt k) i ((pickOrder (w.params.setOrder S ep) es).toList.map (·.2))
  | drawn (i : Nat) (pl : List Nat) (e : w.params.followText "set-order" = false) (np : t.plain = false) (h1 : 1 < es.size) (hT : h.get? T = some { cls := .type "tuple", data := .seq (pl.map fun (p : Nat) => rawInt p).toArray }) (hp : pl.Perm (List.range es.size)) : ItM w S es ep t h T (.ref T) i (pl.map fun p => (es[p]?.map (·.2)).getD .none)
  | few (k i : Nat) (e : w.params.followText "set-order" = false) (hl : t.led = true) (h1 : es.size ≤ 1) (hk : i = 0 → k = 0) (hk1 : i = 1 → ∃ j, t.place[0]? = some j ∧ k = j + 1) : ItM w S es ep t h T (rawInt k) i (es.toList.map (·.2))
structure ItS (w : World) (S : Addr) (es : Array (Int × Value)) (ep : Nat) (t : SetTable) (I T : Addr) (vs : List Value) (i : Nat) (h : Heap) : Prop where
  set : h.get? S = some (stO es ep t)
  fits : t.fits es.size = true
  it : ∃ first, h.get? I = some (siO first i S es.size ep) ∧ ItM w S es ep t h T first i vs
  ne : S ≠ I ∧ T ≠ I
  len : vs.length = es.size
theorem ItS.keep {w : World} {S : Addr} {es : Array (Int × Value)} {ep : Nat} {t : SetTable} {I T : Addr} {vs : List Value} {i : Nat} {h h' : Heap} (x : ItS w S es ep t I T vs i h) (k : ∀ b ∈ [S, I, T], ∀ o, h.get? b = some o → h'.get? b = some o) : ItS w S es ep t I T vs i h' := by
  obtain ⟨h1, h2, ⟨first, h3, h4⟩, h5, h6⟩ := x
  refine ⟨k S (by simp) _ h1, h2, ⟨first, k I (by simp) _ h3, ?_⟩, h5, h6⟩
  cases h4 with
  | text k' i e => exact .text k' i e
  | drawn i pl e np hs hT hp => exact .drawn i pl e np hs (k T (by simp) _ hT) hp
  | few k' i e hl hs hk hk1 => exact .few k' i e hl hs hk hk1
theorem ItS.step {w : World} {S : Addr} {es : Array (Int × Value)} {ep : Nat} {t : SetTable} {I T : Addr} {vs : List Value} {i j : Nat} {h h' : Heap} {first : Value} (x : ItS w S es ep t I T vs i h) (sb : ∀ b o, b ≠ I → h.get? b = some o → h'.get? b = some o) (hI : h'.get? I = some (siO first j S es.size ep)) (m : ∀ hT : (∀ o, h.get? T = some o → h'.get? T = some o), ItM w S es ep t h' T first j vs) : ItS w S es ep t I T vs j h' :=
  ⟨sb _ _ x.ne.1 x.set, x.fits, ⟨first, hI, m fun o e => sb _ _ x.ne.2 e⟩, x.ne, x.len⟩
theorem below0 {xs : Array Nat} : SetTable.below xs 0 = 0 := by
  have key : ∀ f lo hi, SetTable.below.go xs 0 f lo hi = lo ∨ True := fun _ _ _ => .inr trivial
  have go : ∀ (f : Nat) (hi : Nat), SetTable.below.go xs 0 f 0 hi = 0 := by
    intro f
    induction f with
    | zero => intro hi; rfl
    | succ f ih =>
      intro hi
      unfold SetTable.below.go
      split
      · dsimp only
        rw [if_neg (by omega)]
        exact ih _
      · rfl
  exact go _ _
theorem below1 {j : Nat} : SetTable.below #[j] (j + 1) = 1 := by
  unfold SetTable.below
  unfold SetTable.below.go
  simp
  unfold SetTable.below.go
  rfl
section
variable {prog : Program} {w : World} {A : Around} {E : Value → Shared → Prop} {s : Shared} {S I T : Addr} {es : Array (Int × Value)} {ep : Nat} {t : SetTable} {vs : List Value} {i : Nat}
theorem byText_is {Q : Bool → Shared → Prop} (q : Q (w.params.followText "set-order") s) : wpAny (model prog w) A setsByText Q E s := by
  unfold setsByText
  exact wpAny_bind (wpAny_askSetting (wpAny_pure q))
theorem place_one (hf : t.fits es.size = true) (h : es.size = 1) : ∃ j, t.place = #[j] := by
  unfold SetTable.fits at hf
  simp only [Bool.and_eq_true, beq_iff_eq, decide_eq_true_eq] at hf
  have hs : t.place.size = 1 := by have := hf.1; rw [h] at this; exact this
  exact ⟨t.place[0]'(by omega), Array.ext (by simpa using hs) fun i h1 h2 => by
    have : i = 0 := by simp at h2; omega
    subst this
    rfl⟩
theorem siItem {Q : Option Value → Shared → Prop} {v : Value} (x : ItS w S es ep t I T vs i s.heap) (hv : vs[i]? = some v)
    (hQ : ∀ h', ItS w S es ep t I T vs (i + 1) h' → (∀ b o, b ≠ I → s.heap.get? b = some o → h'.get? b = some o) → Q (some v) { s with heap := h' }) : wpAny (model prog w) A (pyNext (.ref I)) Q E s := by
  obtain ⟨h1, h2, ⟨first, h3, h4⟩, h5, h6⟩ := id x
  have hT : s.TypeIs (.ref I) "set_iterator" := ⟨_, h3, rfl⟩
  unfold pyNext
  refine wpAny_bind (wpAny_attempt (wpAny_callSpecial?_slot (name := Str.ofString "__next__") hT siNext (wpAny_call_entry siNext hT siNextE ?_ (siNextA _))))
  unfold Builtin.«set_iterator.__next__»
  refine wpAny_bind (wpAny_of_eq (a := (Value.ref I, [])) rfl ?_)
  dsimp only
  have hi : i < vs.length := (List.getElem?_eq_some_iff.mp hv).1
  refine wpAny_bind (wpAny_fieldsOf h3 rfl ?_)
  dsimp only [rawInt]
  refine wpAny_bind (wpAny_setEntries_of h1 rfl h2 ?_)
  rw [if_neg (by simp)]
  refine wpAny_bind (wpAny_pure ?_)
  cases h4 with
  | text k _ e =>
    dsimp only [rawInt]
    unfold setNext
    refine wpAny_bind ?_
    refine wpAny_bind (wpAny_setState_of h1 rfl h2 ?_)
    dsimp only
    refine wpAny_bind (byText_is ?_)
    rw [e, if_pos rfl]
    rw [if_neg (by simp)]
    refine wpAny_bind ?_
    unfold setWalk
    refine wpAny_bind (wpAny_setState_of h1 rfl h2 ?_)
    dsimp only
    refine wpAny_bind (byText_is ?_)
    rw [e, if_pos rfl]
    refine wpAny_bind (wpAny_askSetting (wpAny_pure (wpAny_pure ?_)))
    have hx : ∃ ee : Int × Value, (pickOrder (w.params.setOrder S ep) es)[i]? = some ee ∧ ee.2 = v := by
      rw [List.getElem?_map, Option.map_eq_some_iff] at hv
      obtain ⟨ee, z1, z2⟩ := hv
      exact ⟨ee, by simpa using z1, z2⟩
    obtain ⟨ee, hx, rfl⟩ := hx
    have hx' : (pickOrder (w.params.setOrder S ep) es)[((i : Nat) : Int).toNat]? = some ee := hx
    show wpAny _ _ (match (Option.map (fun e : Int × Value => (e.2, ((k : Nat) : Int).toNat)) (pickOrder (w.params.setOrder S ep) es)[((i : Nat) : Int).toNat]?) with | some (x, next) => _ | none => _) _ _ _
    rw [hx']
    dsimp only [Option.map]
    refine wpAny_bind (wpAny_setField_rec h3 (by simp) fun g0 q0 s0 => ?_)
    refine wpAny_bind (wpAny_setField_rec q0 (by simp) fun g1 q1 s1 => wpAny_pure ⟨_, rfl, wpAny_pure ?_⟩)
    exact hQ g1 (x.step (fun b o hb e => s1.extBut b o hb (s0.extBut b o hb e)) (first := rawInt k) q1 fun _ => .text k (i + 1) e) fun b o hb e => s1.extBut b o hb (s0.extBut b o hb e)
  | drawn _ pl e np hs hTT hp =>
    dsimp only [rawInt]
    have hvp : ∃ p, pl[i]? = some p ∧ (es[p]?.map (·.2)).getD .none = v := by
      rw [List.getElem?_map, Option.map_eq_some_iff] at hv
      exact hv
    obtain ⟨p, hp1, hp2⟩ := hvp
    have hpl : p < es.size := by
      have := hp.mem_iff.mp (List.mem_of_getElem? hp1)
      simpa using this
    have hee : es[p]? = some es[p] := by simp [hpl]
    rw [hee] at hp2
    unfold seqItems?
    refine wpAny_bind (wpAny_bind (wpAny_load hTT (wpAny_pure ?_)))
    have hpx : (pl.map fun (p : Nat) => rawInt p).toArray[((i : Nat) : Int).toNat]? = some (rawInt p) := by
      show (pl.map fun (p : Nat) => rawInt p).toArray[i]? = _
      simp [hp1]
    dsimp only
    rw [hpx]
    dsimp only [rawInt]
    unfold setNextDrawn
    refine wpAny_bind (wpAny_bind (wpAny_setState_of h1 rfl h2 ?_))
    dsimp only
    rw [if_neg (by simp)]
    have hee' : es[((p : Nat) : Int).toNat]? = some es[p] := hee
    rw [hee']
    refine wpAny_pure ?_
    refine wpAny_bind (wpAny_setField_rec h3 (by simp) fun g1 q1 s1 => wpAny_pure ⟨_, rfl, wpAny_pure ?_⟩)
    have hp2' : es[p].2 = v := hp2
    show Q (some es[p].2) _
    rw [hp2']
    exact hQ g1 (x.step (fun b o hb e => s1.extBut b o hb e) (first := .ref T) q1 fun kT => .drawn (i + 1) pl e np hs (kT _ hTT) hp) fun b o hb e => s1.extBut b o hb e
  | few k _ e hl hs hk hk1 =>
    dsimp only [rawInt]
    have hes : es.size = 1 := by
      have := h6
      rw [List.length_map, Array.length_toList] at hi
      omega
    have hi0 : i = 0 := by
      rw [List.length_map, Array.length_toList] at hi
      omega
    subst hi0
    obtain ⟨j, hj⟩ := place_one h2 hes
    have hk0 := hk rfl
    subst hk0
    unfold setNext
    refine wpAny_bind ?_
    refine wpAny_bind (wpAny_setState_of h1 rfl h2 ?_)
    dsimp only
    refine wpAny_bind (byText_is ?_)
    rw [e, if_neg (by simp)]
    split
    · rename_i hd
      have hd' : (!t.plain && decide (es.size > 1)) = true := hd
      rw [hes] at hd'
      simp at hd'
    · refine wpAny_bind (show wpAny (model prog w) A.in1 (if (!t.led && !es.isEmpty) = true then unsupported "set:maker-not-led" else pure ()) _ _ _ from ?_)
      rw [hl, if_neg (by simp)]
      refine wpAny_pure (wpAny_pure ?_)
      have hx : ∃ ee : Int × Value, es[0]? = some ee ∧ ee.2 = v := by
        rw [List.getElem?_map, Option.map_eq_some_iff] at hv
        obtain ⟨ee, z1, z2⟩ := hv
        exact ⟨ee, by simpa using z1, z2⟩
      obtain ⟨⟨eh, ev⟩, hx, rfl⟩ := hx
      have b0 : SetTable.below t.place ((0 : Nat) : Int).toNat = 0 := below0
      rw [b0, hx, hj]
      show wpAny _ _ (do
        setField (Value.ref I) 0 (Value.int ((j + 1 : Nat) : Int) 0)
        setField (Value.ref I) 1 (Value.int (((0 : Nat) : Int) + 1) 0)
        ret ev) _ _ _
      refine wpAny_bind (wpAny_setField_rec h3 (by simp) fun g0 q0 s0 => ?_)
      refine wpAny_bind (wpAny_setField_rec q0 (by simp) fun g1 q1 s1 => wpAny_pure ⟨_, rfl, wpAny_pure ?_⟩)
      exact hQ g1 (x.step (fun b o hb e => s1.extBut b o hb (s0.extBut b o hb e)) (first := rawInt (j + 1 : Nat)) q1 fun _ => .few (j + 1) 1 e hl hs (fun z => by cases z) fun _ => ⟨j, by rw [hj]; rfl, rfl⟩) fun b o hb e => s1.extBut b o hb (s0.extBut b o hb e)
theorem siEnd {Q : Option Value → Shared → Prop} (hh : A.handled = none) (x : ItS w S es ep t I T vs es.size s.heap)
    (hQ : ∀ h' tk, (∀ b o, b ≠ I → s.heap.get? b = some o → h'.get? b = some o) → Q none { s with heap := h', toks := tk }) : wpAny (model prog w) A (pyNext (.ref I)) Q E s := by
  obtain ⟨h1, h2, ⟨first, h3, h4⟩, h5, h6⟩ := id x
  have hT : s.TypeIs (.ref I) "set_iterator" := ⟨_, h3, rfl⟩
  have hh1 : A.in1.handled = none := hh
  -- the end: a field is written, the exception is made
  have fin : ∀ (g : Heap) (q : g.get? I = s.heap.get? I ∨ True) (sb : ∀ b o, b ≠ I → s.heap.get? b = some o → g.get? b = some o) {vs' : Array Value}, g.get? I = some { cls := .type "set_iterator", dict := none, data := .fields vs', slots := #[] } → 2 < vs'.size →
      wpAny (model prog w) A.in1 (do
        setField (Value.ref I) 2 Value.none
        let e ← newExc (Value.type "StopIteration") []
        raiseNew e : Sem Fin) (fun fin s' => ∃ v, fin = Fin.done (Flow.ret v) ∧ wpAny (model prog w) A (pure (some v)) Q E s')
        (fun e s' => wpAny (model prog w) A (do
          let b ← isInstance e (Value.type "StopIteration")
          if b = true then pure none else throw e) Q E s') { s with heap := g } := by
    intro g _ sb vs' ho hz
    refine wpAny_bind (wpAny_setField_rec ho hz fun g1 q1 s1 => ?_)
    wp_walk using hh1
    simp only [raiseNew]
    refine wpAny_bind (wpAny_handled ?_)
    rw [hh1]
    refine wpAny_bind (wpAny_pure (wpAny_throw ?_))
    refine wpAny_bind (wpAny_isInstance (b := true) (T := "StopIteration") ⟨_, Heap.get?_push_size _ rfl, rfl⟩ isSubtype_stop ?_)
    refine wpAny_pure (hQ _ _ fun b o hb e => ?_)
    refine Heap.get?_push_of_some _ (Heap.get?_push_of_some _ ?_)
    exact s1.extBut b o hb (sb b o hb e)
  unfold pyNext
  refine wpAny_bind (wpAny_attempt (wpAny_callSpecial?_slot (name := Str.ofString "__next__") hT siNext (wpAny_call_entry siNext hT siNextE ?_ (siNextA _))))
  unfold Builtin.«set_iterator.__next__»
  refine wpAny_bind (wpAny_of_eq (a := (Value.ref I, [])) rfl ?_)
  dsimp only
  refine wpAny_bind (wpAny_fieldsOf h3 rfl ?_)
  dsimp only [rawInt]
  refine wpAny_bind (wpAny_setEntries_of h1 rfl h2 ?_)
  rw [if_neg (by simp)]
  refine wpAny_bind (wpAny_pure ?_)
  cases h4 with
  | text k _ e =>
    dsimp only [rawInt]
    unfold setNext
    refine wpAny_bind ?_
    refine wpAny_bind (wpAny_setState_of h1 rfl h2 ?_)
    dsimp only
    refine wpAny_bind (byText_is ?_)
    rw [e, if_pos rfl]
    rw [if_neg (by simp)]
    refine wpAny_bind ?_
    unfold setWalk
    refine wpAny_bind (wpAny_setState_of h1 rfl h2 ?_)
    dsimp only
    refine wpAny_bind (byText_is ?_)
    rw [e, if_pos rfl]
    refine wpAny_bind (wpAny_askSetting (wpAny_pure (wpAny_pure ?_)))
    have hn : (pickOrder (w.params.setOrder S ep) es)[((es.size : Nat) : Int).toNat]? = none := by
      rw [Array.getElem?_eq_none_iff]
      have := (pick_perm (w.params.setOrder S ep) es).length_eq
      simp only [Array.length_toList] at this
      show _ ≤ es.size
      exact Nat.le_of_eq this
    show wpAny _ _ (match (Option.map (fun e : Int × Value => (e.2, ((k : Nat) : Int).toNat)) (pickOrder (w.params.setOrder S ep) es)[((es.size : Nat) : Int).toNat]?) with | some (x, next) => _ | none => _) _ _ _
    rw [hn]
    exact fin s.heap (.inr trivial) (fun b o _ e => e) h3 (by simp)
  | drawn _ pl e np hs hTT hp =>
    dsimp only [rawInt]
    unfold seqItems?
    refine wpAny_bind (wpAny_bind (wpAny_load hTT (wpAny_pure ?_)))
    have hpx : (pl.map fun (p : Nat) => rawInt p).toArray[((es.size : Nat) : Int).toNat]? = none := by
      rw [Array.getElem?_eq_none_iff]
      have := hp.length_eq
      simp at this
      show _ ≤ es.size
      simp [this]
    dsimp only
    rw [hpx]
    dsimp only
    refine wpAny_bind (wpAny_setField_rec h3 (by simp) fun g0 q0 s0 => ?_)
    exact fin g0 (.inr trivial) (fun b o hb e => s0.extBut b o hb e) q0 (by simp)
  | few k _ e hl hs hk hk1 =>
    dsimp only [rawInt]
    unfold setNext
    refine wpAny_bind ?_
    refine wpAny_bind (wpAny_setState_of h1 rfl h2 ?_)
    dsimp only
    refine wpAny_bind (byText_is ?_)
    rw [e, if_neg (by simp)]
    split
    · rename_i hd
      have hd' : (!t.plain && decide (es.size > 1)) = true := hd
      simp at hd'
      omega
    · refine wpAny_bind (show wpAny (model prog w) A.in1 (if (!t.led && !es.isEmpty) = true then unsupported "set:maker-not-led" else pure ()) _ _ _ from ?_)
      rw [hl, if_neg (by simp)]
      refine wpAny_pure (wpAny_pure ?_)
      have b0 : es[SetTable.below t.place ((k : Nat) : Int).toNat]? = none := by
        rw [Array.getElem?_eq_none_iff]
        by_cases z : es.size = 0
        · omega
        · have z1 : es.size = 1 := by omega
          obtain ⟨j, hj, hkj⟩ := hk1 z1
          obtain ⟨j', hj'⟩ := place_one h2 z1
          rw [hj'] at hj
          have : j' = j := by simpa using hj
          subst this
          rw [hj', hkj]
          show es.size ≤ SetTable.below #[j'] (j' + 1)
          rw [below1]
          omega
      rw [b0]
      exact fin s.heap (.inr trivial) (fun b o _ e => e) h3 (by simp)
end
end L2

set_option Elab.async false
set_option linter.all false
set_option maxRecDepth 100000
set_option maxHeartbeats 4000000
namespace L2
open PySem PySem.Spec PyProof.Rows PySem.W
section
variable {prog : Program} {w : World} {A : Around} {E : Value → Shared → Prop} {s : Shared} {S I T : Addr} {es : Array (Int × Value)} {ep : Nat} {t : SetTable} {vs : List Value} {i : Nat}
theorem epoch_is {Q : Nat → Shared → Prop} (h1 : s.heap.get? S = some (stO es ep t)) (h2 : t.fits es.size = true) (q : Q ep s) : wpAny (model prog w) A (setEpoch S) Q E s := by
  unfold setEpoch
  exact wpAny_bind (wpAny_setState_of h1 rfl h2 (wpAny_pure q))
/-- iter(a set) -/
theorem seIterOk {Q : Value → Shared → Prop} (h1 : s.heap.get? S = some (stO es ep t)) (h2 : t.fits es.size = true) (hz : es.size < scanBound) (hl : w.params.followText "set-order" = false → t.led = true) (hp : 1 ≤ es.size → t.plain = false)
    (q : ∀ (I T : Addr) (vs : List Value) (h' : Heap) (d : Drawn), vs.Perm (es.toList.map (·.2)) → ItS w S es ep t I T vs 0 h' → s.heap.objs.size ≤ I → (T = S ∨ s.heap.objs.size ≤ T) → T < h'.objs.size → (∀ b o, s.heap.get? b = some o → h'.get? b = some o) → Q (.ref I) { s with heap := h', drawn := d }) :
    wpAny (model prog w) A (pyIter (.ref S)) Q E s := by
  have hT : s.TypeIs (.ref S) "set" := ⟨_, h1, rfl⟩
  have hS : S < s.heap.objs.size := Heap.lt_size h1
  refine wpAny_pyIter_slot hT seIter (wpAny_call_entry seIter hT seIterE ?_ (seIterA _))
  unfold Builtin.«frozenset.__iter__»
  unfold Builtin.Frozenset.slot0
  refine wpAny_bind (wpAny_bind (wpAny_of_eq (a := (Value.ref S, [])) rfl ?_))
  dsimp only
  refine wpAny_pure ?_
  unfold Builtin.Frozenset.sizeOf
  refine wpAny_bind (wpAny_bind (wpAny_setEntries_of h1 rfl h2 (wpAny_pure ?_)))
  refine wpAny_bind ?_
  unfold setDrawn
  refine wpAny_bind (wpAny_setState_of h1 rfl h2 ?_)
  dsimp only
  refine wpAny_bind (byText_is (wpAny_pure ?_))
  -- the iterator that knows no places
  have easy : ∀ vs : List Value, vs.Perm (es.toList.map (·.2)) → (∀ h : Heap, ItM w S es ep t h S (rawInt ((0 : Nat) : Int)) 0 vs) → wpAny (model prog w) A.in1 (do
              let first ← pure (rawInt 0)
              let e ← setEpoch S
              let f ← newFields "set_iterator" [first, rawInt 0, Value.ref S, rawInt es.size, rawInt e]
              ret f : Sem Fin) (fun fin s' => ∃ v, fin = Fin.done (Flow.ret v) ∧ ∃ T' r, s'.TypeIs v T' ∧ typeLookup (Value.type T') (Str.ofString "__next__") = pure (some r) ∧ Q v s') E s := by
    intro vs pv im
    refine wpAny_bind (wpAny_pure (wpAny_bind (epoch_is h1 h2 (wpAny_bind ?_))))
    unfold newFields
    refine wpAny_newObj_type (wpAny_pure ⟨_, rfl, "set_iterator", _, ⟨_, Heap.get?_push_size _ rfl, rfl⟩, siNext.lookup, ?_⟩)
    have e : s = { s with heap := s.heap, drawn := s.drawn } := by cases s; rfl
    refine q s.heap.objs.size S vs _ s.drawn pv ⟨Heap.get?_push_of_some _ h1, h2, ⟨_, Heap.get?_push_size _ rfl, im _⟩, ⟨Nat.ne_of_lt hS, Nat.ne_of_lt hS⟩, by rw [pv.length_eq]; simp⟩ (Nat.le_refl _) (.inl rfl) (by rw [Heap.size_push]; exact Nat.lt_succ_of_lt hS) fun b o e => Heap.get?_push_of_some _ e
  cases hb : w.params.followText "set-order" with
  | true =>
    rw [if_neg (by simp)]
    exact easy _ ((pick_perm _ es).map _) fun h => .text 0 0 hb
  | false =>
    by_cases hd : 1 < es.size
    · have hpl := hp (by omega)
      have hdr : (!t.plain && decide (es.size > 1)) = true := by rw [hpl]; simp [hd]
      split
      case isFalse hc => exact absurd (show (!false && (!t.plain && decide (es.size > 1))) = true by rw [hdr]; rfl) hc
      refine wpAny_bind (drawOrder_any es.size _ _ _ (by simp) fun ys d py => ?_)
      refine wpAny_bind (wpAny_newTuple ?_ (by rw [List.length_map, py.length_eq, List.length_range]; exact Nat.le_trans (Nat.le_of_lt hz) (by decide)))
      have h1' : (s.heap.push { cls := .type "tuple", data := .seq (ys.map fun (p : Nat) => rawInt p).toArray }).get? S = some (stO es ep t) := Heap.get?_push_of_some _ h1
      refine wpAny_bind (epoch_is (s := { s with heap := s.heap.push { cls := .type "tuple", data := .seq (ys.map fun (p : Nat) => rawInt p).toArray }, drawn := d }) h1' h2 (wpAny_bind ?_))
      unfold newFields
      refine wpAny_newObj_type (wpAny_pure ⟨_, rfl, "set_iterator", _, ⟨_, Heap.get?_push_size _ rfl, rfl⟩, siNext.lookup, ?_⟩)
      have sz : (s.heap.push { cls := .type "tuple", data := .seq (ys.map fun (p : Nat) => rawInt p).toArray }).objs.size = s.heap.objs.size + 1 := Heap.size_push ..
      have pv : (ys.map fun p => (es[p]?.map (·.2)).getD .none).Perm (es.toList.map (·.2)) := by
        refine (py.map _).trans ?_
        have : (List.range es.size).map (fun p => (es[p]?.map (·.2)).getD .none) = es.toList.map (·.2) := by
          apply List.ext_getElem (by simp)
          intro n a1 a2
          simp at a1 a2
          simp [a1]
        rw [this]
      refine q _ s.heap.objs.size (ys.map fun p => (es[p]?.map (·.2)).getD .none) _ d pv ⟨Heap.get?_push_of_some _ h1', h2, ⟨_, Heap.get?_push_size _ rfl, .drawn 0 ys hb hpl hd (Heap.get?_push_of_some _ (Heap.get?_push_size _ rfl)) py⟩, ⟨?_, ?_⟩, by rw [pv.length_eq]; simp⟩ ?_ (.inr (Nat.le_refl _)) ?_ fun b o e => Heap.get?_push_of_some _ (Heap.get?_push_of_some _ e)
      · rw [sz]; exact Nat.ne_of_lt (Nat.lt_succ_of_lt hS)
      · rw [sz]; exact Nat.ne_of_lt (Nat.lt_succ_self _)
      · rw [sz]; exact Nat.le_succ _
      · rw [Heap.size_push, sz]; exact Nat.lt_succ_of_lt (Nat.lt_succ_self _)
    · have hdr : (!t.plain && decide (es.size > 1)) = false := by simp [hd]
      split
      case isTrue hc =>
        have hc' : (!false && (!t.plain && decide (es.size > 1))) = true := hc
        rw [hdr] at hc'
        cases hc'
      exact easy _ (.refl _) fun h => .few 0 0 hb (hl hb) (by omega) (fun _ => rfl) fun z => by cases z
end
section
variable {prog : Program} {w : World} {A : Around} {E : Value → Shared → Prop} {S I T : Addr} {es : Array (Int × Value)} {ep : Nat} {t : SetTable} {vs : List Value}
theorem si_walks (hh : A.handled = none) : Walks prog w A I [S, I, T] [I] es.size (fun i v => vs[i]? = some v) (fun i h => ItS w S es ep t I T vs i h ∧ i ≤ es.size) where
  sub := fun b hb => by
    have : b = I := by simpa using hb
    simp [this]
  frame := fun i h h' ⟨x, hi⟩ k => ⟨x.keep k, hi⟩
  item := fun i s Q E hi ⟨x, _⟩ hQ => by
    have hl : i < vs.length := by rw [x.len]; exact hi
    refine siItem (v := vs[i]) x (by simp [hl]) fun h' x' k => ?_
    exact hQ _ h' s.toks (by simp [hl]) ⟨x', hi⟩ fun b o hb e => k b o (by simpa using hb) e
  done := fun s Q E ⟨x, _⟩ hQ => siEnd hh x fun h' tk k => hQ h' tk fun b o hb e => k b o (by simpa using hb) e
  self := fun i s Q E ⟨x, _⟩ q => by
    obtain ⟨first, h3, _⟩ := x.it
    have hT : s.TypeIs (.ref I) "set_iterator" := ⟨_, h3, rfl⟩
    refine wpAny_pyIter_slot hT siIter (wpAny_call_entry siIter hT siIterE ?_ (siIterA _))
    show wpAny _ _ (ret (.ref I)) _ _ s
    exact wpAny_pure ⟨_, rfl, "set_iterator", _, hT, siNext.lookup, q⟩
end
end L2

set_option Elab.async false
set_option linter.all false
set_option maxRecDepth 100000
set_option maxHeartbeats 4000000
namespace L2
open PySem PySem.Spec PyProof.Rows PySem.W
section
variable {prog : Program} {w : World} {A : Around} {E : Value → Shared → Prop} {s : Shared} {S : Addr} {es : Array (Int × Value)} {ep : Nat} {t : SetTable}
/-- all items of a set, in some order -/
theorem collect_set {Q : List Value → Shared → Prop} (hh : A.handled = none) (h1 : s.heap.get? S = some (stO es ep t)) (h2 : t.fits es.size = true) (hz : es.size < scanBound) (hl : w.params.followText "set-order" = false → t.led = true) (hp : 1 ≤ es.size → t.plain = false)
    (q : ∀ (vs : List Value) (h' : Heap) (tk : Nat) (d : Drawn), vs.Perm (es.toList.map (·.2)) → s.heap.objs.size < h'.objs.size → (∀ b o, s.heap.get? b = some o → h'.get? b = some o) → Q vs { s with heap := h', toks := tk, drawn := d }) :
    wpAny (model prog w) A (collect (.ref S)) Q E s := by
  have hS : S < s.heap.objs.size := Heap.lt_size h1
  have hSne : s.heap.objs.size ≠ S := Nat.ne_of_gt hS
  unfold collect
  refine wpAny_bind (wpAny_runValue (codeAny_builtin PySem.F.entry_proto_collect ?_))
  rw [Around.under_plainId PySem.F.plain_proto_collect _]
  show wpAny _ A.in1 (newList [] >>= fun l => again (.builtin "list.__iadd__" ⟨[l, .ref S], []⟩)) _ _ s
  refine wpAny_bind (wpAny_newObj_type (wpAny_pure ⟨plainId_quiet PySem.F.plain_list_iadd _, codeAny_builtin PySem.F.entry_list_iadd ?_⟩))
  rw [Around.under_plainId PySem.F.plain_list_iadd _]
  show wpAny _ A.in1 (Builtin.List.listExtendWith (.ref s.heap.objs.size) (.ref S) (.ref s.heap.objs.size)) _ _ _
  have h1' : (s.heap.push { cls := .type "list", data := .seq ([] : List Value).toArray }).get? S = some (stO es ep t) := Heap.get?_push_of_some _ h1
  unfold Builtin.List.listExtendWith
  refine wpAny_bind (wpAny_typeOf (T := "set") ⟨_, h1', rfl⟩ ?_)
  have e1 : Builtin.List.listSameRef (.ref s.heap.objs.size) (.ref S) = false := by simp [Builtin.List.listSameRef, hSne]
  rw [if_neg (by rw [e1]; decide)]
  refine wpAny_bind (seIterOk (s := { s with heap := s.heap.push { cls := .type "list", data := .seq ([] : List Value).toArray } }) h1' h2 hz hl hp fun I T vs h' d pv x hI hT hTl k => ?_)
  have hTS : ({ s with heap := h', drawn := d } : Shared).TypeIs (.ref S) "set" := ⟨_, x.set, rfl⟩
  refine wpAny_bind (wpAny_holding ?_)
  unfold Builtin.List.listLengthHint
  refine wpAny_bind (wpAny_specialOf hTS seLen ?_)
  have sp : splitId "set.__len__" = some ("set", "__len__") := by decide +kernel
  dsimp only
  rw [sp]
  dsimp only
  refine wpAny_bind (wpAny_isInstance (b := true) hTS seSub ?_)
  rw [if_neg (by simp)]
  rw [if_pos (by decide +kernel)]
  refine wpAny_bind (wpAny_typeOf hTS ?_)
  dsimp only
  refine wpAny_pure ?_
  rw [if_pos (by decide +kernel)]
  refine wpAny_bind (wpAny_rule ?_)
  have o1 : h'.get? s.heap.objs.size = some { cls := .type "list", data := .seq ([] : List Value).toArray } := k _ _ (Heap.get?_push_size _ rfl)
  have sz : (s.heap.push { cls := .type "list", data := .seq ([] : List Value).toArray }).objs.size = s.heap.objs.size + 1 := Heap.size_push ..
  have hI' : s.heap.objs.size + 1 ≤ I := by rw [← sz]; exact hI
  have hnI : s.heap.objs.size ≠ I := Nat.ne_of_lt hI'
  have hnT : s.heap.objs.size ≠ T := by
    rcases hT with z | z
    · rw [z]; exact hSne
    · exact Nat.ne_of_lt (show s.heap.objs.size + 1 ≤ T by rw [← sz]; exact z)
  refine wpAny_bind ?_
  show wpAny _ A.in1 (updateSeq s.heap.objs.size (·.push .none) >>= fun _ => updateSeq s.heap.objs.size (·.pop)) _ _ _
  refine wpAny_bind (wpAny_updateSeq o1 rfl ?_)
  have o2 := Heap.get?_update_self (Obj.mapSeq (·.push Value.none)) o1 rfl
  refine wpAny_updateSeq o2 rfl ?_
  have o3 := Heap.get?_update_self (Obj.mapSeq (·.pop)) o2 rfl
  have oth : ∀ b o, b ≠ s.heap.objs.size → h'.get? b = some o → ((h'.update s.heap.objs.size (Obj.mapSeq (·.push Value.none))).update s.heap.objs.size (Obj.mapSeq (·.pop))).get? b = some o :=
    fun b o hb e => (Heap.get?_update_other _ _ (Ne.symm hb)).trans ((Heap.get?_update_other _ _ (Ne.symm hb)).trans e)
  have x3 : ItS w S es ep t I T vs 0 ((h'.update s.heap.objs.size (Obj.mapSeq (·.push Value.none))).update s.heap.objs.size (Obj.mapSeq (·.pop))) := x.keep fun b hb o e => oth b o (by
    rintro rfl
    simp only [List.mem_cons, List.not_mem_nil, or_false] at hb
    rcases hb with z | z | z
    · exact hSne z
    · exact hnI z
    · exact hnT z) e
  have hlv : vs.length = es.size := x.len
  refine wpAny_pure ⟨plainId_quiet PySem.F.plain_extend_loop _, codeAny_extend_loopS (si_walks (prog := prog) (w := w) (A := A.in1) (I := I) (S := S) (T := T) (es := es) (ep := ep) (t := t) (vs := vs) hh).toS (Nat.le_trans (Nat.le_of_lt hz) (by decide)) _ (by simp; exact ⟨hSne, hnI, hnT⟩) _ es.size 0 _ _ _ rfl (Nat.zero_le _) ⟨x3, Nat.zero_le _⟩ o3 (ItemsOf.nil _) fun s' acc' c' hm hS' hacc => ?_⟩
  show wpAny _ A (load s.heap.objs.size >>= _) _ _ s'
  refine wpAny_bind (wpAny_load hS' (wpAny_pure ?_))
  have ev : acc'.toList = vs := by
    obtain ⟨z1, z2⟩ := hacc
    apply List.ext_getElem (by simp [z1, hlv])
    intro n a1 a2
    have : vs[n]? = some acc'[n] := z2 n acc'[n] (by simp at a1; simp [a1])
    rw [List.getElem?_eq_getElem a2] at this
    simpa using (Option.some.inj this).symm
  obtain ⟨m1, m2, m3, m4, m5⟩ := hm
  have es' : s' = { s with heap := s'.heap, toks := s'.toks, drawn := d } := by
    obtain ⟨g1, g2, g3, g4, g5⟩ := s'
    simp only at m2 m3 m4 ⊢
    rw [m2, m3, m4]
  show Q acc'.toList s'
  rw [ev, es']
  refine q vs _ _ _ pv (Heap.lt_size hS') fun b o e => m1 b o ?_ (oth b o (Nat.ne_of_lt (Heap.lt_size e)) (k b o (Heap.get?_push_of_some _ e)))
  have hb := Heap.lt_size e
  simp only [List.mem_cons, List.not_mem_nil, or_false, not_or]
  exact ⟨Nat.ne_of_lt hb, Nat.ne_of_lt (Nat.lt_of_lt_of_le hb (Nat.le_trans (Nat.le_succ _) hI'))⟩
/-- sorted(a set of texts) -/
theorem sorted_set {Q : Value → Shared → Prop} {ss : List Str} (hh : A.handled = none) (h1 : s.heap.get? S = some (stO es ep t)) (h2 : t.fits es.size = true) (hz : es.size < 64) (hl : w.params.followText "set-order" = false → t.led = true) (hp : 1 ≤ es.size → t.plain = false)
    (hk : Paired (fun k (e : Int × Value) => (PySem.strKind prog w).is k e.2 = true) ss es.toList)
    (q : ∀ (L : Addr) (out : List Value) (ss' : List Str) (n : Nat) (h' : Heap) (tk : Nat) (d : Drawn), StrsAre out ss' → ss'.Perm ss → sortedS ss' = true → s.heap.objs.size ≤ L → h'.get? L = some { cls := .type "list", data := .seq out.toArray n } → (∀ b o, s.heap.get? b = some o → h'.get? b = some o) → Q (.ref L) { s with heap := h', toks := tk, drawn := d }) :
    wpAny (model prog w) A (call (.builtin "sorted") [.ref S]) Q E s := by
  refine Calls.call_function_entry kind_sorted plain_sorted entry_sorted (args_sorted1 _) ?_
  unfold Builtin.«sorted»
  refine wpAny_bind (m := checkCount "sorted" 1 1 _) (wpAny_pure ?_)
  have hz' : es.size < scanBound := Nat.lt_trans hz (by decide)
  refine wpAny_bind (collect_set (A := A.in1) hh h1 h2 hz' hl hp fun vs h' tk d pv hlt k => ?_)
  refine wpAny_bind (wpAny_newList ?_ (by rw [pv.length_eq]; simp; exact Nat.le_trans (Nat.le_of_lt hz') (by decide)))
  have hlen : vs.length < 64 := by rw [pv.length_eq]; simpa using hz
  have hk2 : Paired (fun k (v : Value) => (PySem.strKind prog w).is k v = true) ss (es.toList.map (·.2)) := by
    have key : ∀ {a : List Str} {b : List (Int × Value)}, Paired (fun k (e : Int × Value) => (PySem.strKind prog w).is k e.2 = true) a b → Paired (fun k (v : Value) => (PySem.strKind prog w).is k v = true) a (b.map (·.2)) := by
      intro a b h
      induction h with
      | nil => exact .nil
      | cons r t ih => exact .cons r ih
    exact key hk
  obtain ⟨ss1, p1, p2⟩ := paired_perm pv.symm hk2
  have hS1 : StrsAre vs ss1 := by
    have key : ∀ {a : List Str} {b : List Value}, Paired (fun k (v : Value) => (PySem.strKind prog w).is k v = true) a b → StrsAre b a := by
      intro a b h
      induction h with
      | nil => exact .nil
      | cons r t ih =>
        obtain ⟨tk, rfl⟩ := Value.isStrOf_shape r
        exact .cons _ tk ih
    exact key p1
  have hoL : (h'.push (seqObj "list" vs.toArray 0)).get? h'.objs.size = some (seqObj "list" vs.toArray 0) := Heap.get?_push_size _ rfl
  refine wpAny_bind (wpAny_holding (wpAny_call_entry slot_list_sort ⟨_, hoL, rfl⟩ entry_list_sort (list_sort_treeK strKind_oneLt hoL hS1.keysOf (fun v₁ v₂ rest e => keyKind_strs (by rw [← e]; exact hS1)) hlen fun st' a1 a2 => ⟨_, rfl, ?_⟩) (args_list_sort _)))
  obtain ⟨ss', b1, b2, b3⟩ := sorted_out_str hS1 a1 a2
  obtain ⟨e, he⟩ := sortedHeap_at (out := (arrOf st').map (·.2)) hoL
  refine wpAny_pure ⟨_, rfl, q h'.objs.size ((arrOf st').map (·.2)).toList ss' e _ tk d b1 (b2.trans p2) b3 (Nat.le_of_lt hlt) (by rw [Array.toArray_toList]; exact he) fun b o eb => ?_⟩
  have hb := Heap.lt_size (k b o eb)
  show (sortedHeap (h'.push (seqObj "list" vs.toArray 0)) h'.objs.size vs ((arrOf st').map (·.2))).get? b = some o
  rw [sortedHeap_old (Nat.ne_of_lt hb) (by rw [Heap.size_push]; exact Nat.lt_succ_of_lt hb)]
  exact Heap.get?_push_of_some _ (k b o eb)
end
end L2

set_option Elab.async false
set_option linter.all false
set_option maxRecDepth 100000
set_option maxHeartbeats 4000000
namespace L2
open PySem PySem.Spec PyProof.Rows PySem.W
theorem rising_pw : ∀ {l : List Str} {p : Str}, risingS p l = true → (p :: l).Pairwise fun a b => LeT a.cps.toList b.cps.toList
  | [], p, _ => List.pairwise_singleton ..
  | x :: l, p, h => by
    have h' : (!ltCps x.cps.toList p.cps.toList && risingS x l) = true := h
    obtain ⟨h1, h2⟩ := Bool.and_eq_true_iff.mp h'
    have ih := rising_pw h2
    have hpx : LeT p.cps.toList x.cps.toList := by
      rw [ltCps_eq] at h1
      simpa using h1
    refine List.pairwise_cons.mpr ⟨fun z hz => ?_, ih⟩
    rcases List.mem_cons.mp hz with rfl | hz
    · exact hpx
    · exact leT_trans hpx ((List.pairwise_cons.mp ih).1 z hz)
theorem sorted_pw : ∀ {l : List Str}, sortedS l = true → l.Pairwise fun a b => LeT a.cps.toList b.cps.toList
  | [], _ => .nil
  | x :: l, h => rising_pw h
/-- the one sorted list -/
theorem sorted_is {ls : List (List Nat)} {ss : List Str} (hp : ss.Perm (ls.map txt)) (hs : sortedS ss = true) : ss = (sortT ls).map txt := by
  have e1 : ss = (ss.map fun x => x.cps.toList).map txt := by
    rw [List.map_map]
    conv => lhs; rw [← List.map_id ss]
    refine List.map_congr_left fun x _ => ?_
    cases x
    simp [txt]
  have e2 : (ss.map fun x => x.cps.toList) = sortT ls := by
    refine sort_one (List.pairwise_map.mpr (sorted_pw hs)) (sortT_sort ls) ?_
    refine (hp.map _).trans ?_
    rw [List.map_map]
    have : ls.map ((fun x : Str => x.cps.toList) ∘ txt) = ls := by
      conv => rhs; rw [← List.map_id ls]
      refine List.map_congr_left fun x _ => ?_
      simp [txt]
    rw [this]
    exact (sortT_perm ls).symm
  rw [← e2]
  exact e1
theorem strs_vals : ∀ {out : List Value} {ls : List (List Nat)}, StrsAre out (ls.map txt) → Vals (ls.map S) out
  | _, [], .nil => .nil
  | _, l :: ls, .cons _ t r => .cons ⟨t, rfl⟩ (strs_vals r)
theorem ra_in {α : Type} [DecidableEq α] {x : α} {l : List α} (h : x ∈ l) : [x].removeAll l = [] := by simp [List.removeAll, h]
theorem ra_out {α : Type} [DecidableEq α] {x : α} {l : List α} (h : x ∉ l) : [x].removeAll l = [x] := by simp [List.removeAll, h]
theorem dup_map2 {α β : Type} [DecidableEq α] [DecidableEq β] (h : α → β) (hi : ∀ a b, h a = h b → a = b) : ∀ (n : Nat) (l : List α), l.length = n → (l.map h).eraseDups = l.eraseDups.map h
  | 0, l, e => by rw [List.length_eq_zero_iff.mp e]; rfl
  | n + 1, l, e => by
    have hne : l ≠ [] := fun z => by rw [z] at e; cases e
    have hl : l.dropLast.length = n := by rw [List.length_dropLast, e]; rfl
    have ih := dup_map2 h hi n l.dropLast hl
    rw [← List.dropLast_concat_getLast hne, List.map_append, List.map_cons, List.map_nil, List.eraseDups_append, List.eraseDups_append, ih, List.map_append]
    congr 1
    by_cases z : l.getLast hne ∈ l.dropLast
    · have z' : h (l.getLast hne) ∈ l.dropLast.map h := List.mem_map.mpr ⟨_, z, rfl⟩
      rw [ra_in z', ra_in z]
      rfl
    · have z' : h (l.getLast hne) ∉ l.dropLast.map h := fun q => by
        obtain ⟨a, ha, e⟩ := List.mem_map.mp q
        exact z (hi _ _ e ▸ ha)
      rw [ra_out z', ra_out z]
      rfl
theorem dup_txt2 (ls : List (List Nat)) : (ls.map txt).eraseDups = ls.eraseDups.map txt := by
  rw [dup_map2 txt txt_inj _ ls rfl]
  rw [beq_same (α := List Nat) _]
theorem dup_leT (ls : List (List Nat)) {n : Nat} (h : ls.length ≤ n) : ls.eraseDups.length ≤ n := by
  have := dup_le' ls n h
  rwa [beq_same (α := List Nat) _] at this
theorem sm_strs : ∀ {ds : List Dt} {ls : List (List Nat)}, strsM ds = some ls → sms ds → ∀ l ∈ ls, l.length ≤ 10000
  | [], ls, h, _, l, hl => by cases h; cases hl
  | .str a :: ds, ls, h, z, l, hl => by
    have h' : (strsM ds).map (a :: ·) = some ls := h
    obtain ⟨ls', e1, e2⟩ := Option.map_eq_some_iff.mp h'
    subst e2
    rcases List.mem_cons.mp hl with rfl | hl
    · exact z.1
    · exact sm_strs e1 z.2 l hl
  | .non :: ds, ls, h, _, _, _ => by cases h
  | .bl _ :: ds, ls, h, _, _, _ => by cases h
  | .int _ :: ds, ls, h, _, _, _ => by cases h
  | .tup _ :: ds, ls, h, _, _, _ => by cases h
  | .lst _ :: ds, ls, h, _, _, _ => by cases h
theorem Inv.drawnD {X : Cx} {pins : List (Addr × Obj)} {σ : St} {H : Hp} {s : Shared} (I : Inv X pins σ H s) (d : Drawn) : Inv X pins σ H { s with drawn := d } :=
  ⟨I.ok, I.os, I.bare, I.base, I.loc, I.cell, I.free, I.freeC, I.pin, I.hok, I.len⟩
section
variable {X : Cx} {cls : Nat → Addr} {E : XK} {e : Expr} {f : Rho → M Dt} {pos pos2 p p2 : Pos}
/-- a fresh list of texts -/
theorem tx_list {pins : List (Addr × Obj)} {σ : St} {H : Hp} {s : Shared} {A : List Addr} {Q : VK} {L : Addr} {out : List Value} {n : Nat} {h' : Heap} {tk : Nat} {d : Drawn} {ls : List (List Nat)} (I : Inv X pins σ H s) (Lv : Liv H A) (hL : s.heap.objs.size ≤ L) (ho : h'.get? L = some { cls := .type "list", data := .seq out.toArray n }) (k : ∀ b o, s.heap.get? b = some o → h'.get? b = some o)
    (hv : StrsAre out (ls.map txt)) (hl : ls.length ≤ 10000) (hz : ∀ l ∈ ls, l.length ≤ 10000) (q : Res X.K cls A E (.ok (.lst (ls.map Dt.str))) H Q) : EP X pins σ Q (.ref L) { s with heap := h', toks := tk, drawn := d } := by
  have hfr : H L = none := I.hok.fresh hL
  refine ⟨.ref L, upd H L (.lst (ls.map S)), (I.laid (o := .lst (ls.map S)) (t' := tk) k hL ⟨by rw [List.length_map]; exact big _ hl, out, n, strs_vals hv, ho⟩).drawnD d, rfl, ?_⟩
  refine q (.ref L) _ (.upd hfr) (rep_lst (hid_new Lv hfr) ?_) ⟨by simpa using hl, sms_of fun x hx => ?_⟩
  · have : ∀ l : List (List Nat), Reps X.K (hid (upd H L (.lst (ls.map S))) A) (l.map Dt.str) (l.map S) := fun l => by
      induction l with
      | nil => exact .nil
      | cons a l ih => exact .cons rep_str ih
    exact this ls
  · obtain ⟨l, hl', rfl⟩ := List.mem_map.mp hx
    exact hz l hl'
theorem ev_sortset (hc : X.calm = true) (hgl : Gl X "sorted") (hml : X.mg "sorted" = none) (hgs : Gl X "set") (hms : X.mg "set" = none) (ha : Ev X cls E e f) (hst : isStar e = false) :
    Ev X cls E (.Call (.Name "sorted" p) [.Call (.Name "set" p2) [e] [] pos2] [] pos) (p1 oSortSet f) := by
  intro pins s σ H Q I ⟨O, A, ρ, F, q⟩
  refine wpAny_Call_Name_kw (ld_blt I hgl hml boot_sorted ?_ (by decide) (by decide))
  refine PyProof.Rows.callWith_builtin1 (e := .Call (.Name "set" p2) [e] [] pos2) (rest := []) ?_ rfl rfl
  refine Calls.spliced_cons (x := eval (.Call (.Name "set" p2) [e] [] pos2) X.env) ?_
  refine wpAny_Call_Name_kw (ld_blt I hgs hms (show bootBuiltins "set" = some (.type "set") from by decide +kernel) ?_ (by decide) (by decide))
  refine PyProof.Rows.callWith_type1 (e := e) (rest := []) ?_ (starEach_cons hst) rfl
  rw [starEach_cons hst]
  refine Calls.spliced_cons (x := eval e X.env) (thn (ha pins s σ H (fun x H1 => ∃ d, Same H H1 ∧ Rep X.K (hid H1 A) d x ∧ sm d ∧ Res X.K cls A E (oSortSet d) H1 Q) I ⟨O, A, ρ, F, Rg.bind q fun d _ q1 => ?_⟩) fun u s1 ⟨x, H1, I1, r1, d, sm1, rp, zd, q1⟩ => ?_)
  · intro x H1 s1 r1 z1
    exact ⟨d, s1, r1, z1, Res.mono q1 s1⟩
  refine Calls.spliced_nil ?_
  cases d with
  | lst ds =>
    simp only [oSortSet] at q1
    split at q1
    · rename_i hlen
      cases hs : strsM ds with
      | none => rw [hs] at q1; exact (show False from q1).elim
      | some ls =>
        rw [hs] at q1
        obtain ⟨pl, xs, rfl, h1, h2⟩ := repL rp
        cases r1
        have hx := strs_rep hs h2
        subst hx
        obtain ⟨its, rv, pla, hz⟩ := I1.list (hid_same.seq h1)
        have hl : its.length = ls.length := by have := rv.length; simpa using this.symm
        have hl2 : ls.length ≤ 60 := by have := h2.length; simp at this; omega
        refine set_of_listX (knd := PySem.strKind X.prog X.w) (ks := ls.map txt) (I1.ok.hd hc) pla.isList (fun i v hv => ?_) (by simp [hl]) (by simp [scanBound]; omega) fun h' tk hS hk => ?_
        · have hv' : its[i]? = some v := by simpa using hv
          have hi : i < its.length := (List.getElem?_eq_some_iff.mp hv').1
          have hi2 : i < ls.length := by omega
          obtain ⟨u, hu, ru⟩ := rv.get (i := i) (x := S ls[i]) (by simp [hi2])
          rw [hv'] at hu
          cases hu
          obtain ⟨t, rfl⟩ := ru
          exact ⟨txt ls[i], by simp [hi2], strKind_is X.prog X.w _ _, rfl, rfl⟩
        · refine Calls.spliced_nil ?_
          obtain ⟨es, ep, t, kl, ho, hel, hp, pm, hb, hf, hld, hpl⟩ := hS
          rw [dup_txt2] at pm
          have hes : es.size < 64 := by
            have e1 : kl.length = es.size := by have := hp.length; simpa using this
            have e2 := pm.length_eq
            have e3 : (ls.eraseDups.map txt).length ≤ 60 := by rw [List.length_map]; exact dup_leT ls hl2
            omega
          have hled : X.w.params.followText "set-order" = false → t.led = true := fun z => by rw [hld]; simp [ledW, z]
          have I2 := I1.kept (t' := tk) hk
          refine sorted_set (s := { s1 with heap := h', toks := tk }) (I1.ok.hd hc) ho hf hes hled hpl hp fun L out ss' n h2 tk2 d2 b1 b2 b3 hL hoL k2 => ?_
          have e := sorted_is (b2.trans pm) b3
          subst e
          refine tx_list (cls := cls) (E := E) I2 (F.liv.mono sm1) hL hoL k2 b1 ?_ ?_ ?_
          · have e1 := (sortT_perm ls.eraseDups).length_eq
            have e3 := dup_leT ls hl2
            omega
          · intro l hl'
            have m1 := (sortT_perm ls.eraseDups).mem_iff.mp hl'
            have m2 : l ∈ ls := by simpa using m1
            exact sm_strs hs zd.2 l m2
          · exact q1
    · exact (show False from q1).elim
  | _ => exact (show False from q1).elim
theorem ev_sort (hc : X.calm = true) (hgl : Gl X "sorted") (hml : X.mg "sorted" = none) (ha : Ev X cls E e f) (hst : isStar e = false) : Ev X cls E (.Call (.Name "sorted" p) [e] [] pos) (p1 oSort f) := by
  intro pins s σ H Q I ⟨O, A, ρ, F, q⟩
  refine wpAny_Call_Name_kw (ld_blt I hgl hml boot_sorted ?_ (by decide) (by decide))
  refine PyProof.Rows.callWith_builtin1 (e := e) (rest := []) ?_ (starEach_cons hst) rfl
  rw [starEach_cons hst]
  refine Calls.spliced_cons (x := eval e X.env) (thn (ha pins s σ H (fun x H1 => ∃ d, Same H H1 ∧ Rep X.K (hid H1 A) d x ∧ sm d ∧ Res X.K cls A E (oSort d) H1 Q) I ⟨O, A, ρ, F, Rg.bind q fun d _ q1 => ?_⟩) fun u s1 ⟨x, H1, I1, r1, d, sm1, rp, zd, q1⟩ => ?_)
  · intro x H1 s1 r1 z1
    exact ⟨d, s1, r1, z1, Res.mono q1 s1⟩
  refine Calls.spliced_nil ?_
  cases d with
  | lst ds =>
    simp only [oSort] at q1
    split at q1
    · rename_i hlen
      cases hs : strsM ds with
      | none => rw [hs] at q1; exact (show False from q1).elim
      | some ls =>
        rw [hs] at q1
        obtain ⟨pl, xs, rfl, h1, h2⟩ := repL rp
        cases r1
        have hx := strs_rep hs h2
        subst hx
        obtain ⟨its, rv, pla, hz⟩ := I1.list (hid_same.seq h1)
        have hl : its.length = ls.length := by have := rv.length; simpa using this.symm
        have hl2 : ls.length ≤ 60 := by have := h2.length; simp at this; omega
        refine sorted_strs (vs := its) (ss := ls.map txt) pla.isList (strsAre_of rv) (by omega) fun out ss' b1 b2 b3 => ?_
        have e := sorted_is b2 b3
        subst e
        obtain ⟨n, he⟩ := sortedAll_at s1.heap its out
        have es1 : ({ s1 with heap := sortedAll s1.heap its out } : Shared) = { s1 with heap := sortedAll s1.heap its out, toks := s1.toks, drawn := s1.drawn } := rfl
        rw [es1]
        refine tx_list (cls := cls) (E := E) I1 (F.liv.mono sm1) (Nat.le_succ _) (n := n) (out := out.toList) (by rw [Array.toArray_toList]; exact he) (fun b o eb => sortedAll_old eb) b1 ?_ ?_ q1
        · have e1 := (sortT_perm ls).length_eq
          omega
        · intro l hl'
          exact sm_strs hs zd.2 l ((sortT_perm ls).mem_iff.mp hl')
    · exact (show False from q1).elim
  | _ => exact (show False from q1).elim
end
end L2

set_option Elab.async false
set_option linter.all false
set_option maxRecDepth 100000
set_option maxHeartbeats 4000000
namespace L2
open PySem PySem.Spec PyProof.Rows PySem.W
theorem sqT_ex {d : Dt} {c : Nat} (h : sqT d = .ex c) : False := by cases d <;> cases h
theorem sqT_small {d : Dt} {ds : List Dt} (h : sqT d = .ok ds) (z : sm d) : sms ds ∧ ds.length ≤ 10000 := by
  cases d with
  | lst l => cases h; exact ⟨z.2, z.1⟩
  | tup l => cases h; exact ⟨z.2, z.1⟩
  | str l => cases h; exact ⟨sms_sgD l, by rw [sgD, List.length_map]; exact z⟩
  | _ => cases h
theorem seq_valsT {K : PySem.W.Frag} {H : Hp} {d : Dt} {ds : List Dt} {v : V} (h : sqT d = .ok ds) (r : Rep K H d v) : ∃ k, SeqV k K H v ∧ ∀ sc : Src, sc.isV k v → ∃ xs, sc.vals K H xs ∧ Reps K H ds xs := by
  cases d with
  | lst l => exact seq_vals (d := .lst l) h r
  | str l => exact seq_vals (d := .str l) h r
  | tup l =>
    cases h
    obtain ⟨a, xs, rfl, h1, h2⟩ := repT r
    refine ⟨2, .inr (.inr ⟨rfl, a, xs, rfl, h1⟩), fun sc hs => ?_⟩
    cases sc with
    | U b => cases (show V.ref a = .ref b from hs.2); exact ⟨xs, h1, h2⟩
    | T m t => exact nomatch hs.1
    | L b => exact nomatch hs.1
  | _ => cases h
theorem iv_zip2T {X : Cx} {cls : Nat → Addr} {E : XK} {tl : List Expr} {kk : Nat} {tpos p pos : Pos} {a b : Expr} {fs : Rho → M (List Dt)} (hg : Gl X "zip") (hm : X.mg "zip" = none) (ha : Av X cls E [a, b] fs) (hs : starEach [a, b] X.env = (false, eval a X.env) :: starEach [b] X.env := by rfl) (hs2 : (backTo pos (starEach [b] X.env)).any (·.1) = false := by rfl) :
    Iv X cls E (.Tuple tl kk tpos) (.Call (.Name "zip" p) [a, b] [] pos) (iBy zip2T fs) := (pi_zip2 hg hm ha hs hs2).imp fun σ H R ⟨O, A, ρ, F, q⟩ => by
  refine ⟨O, A, ρ, F, Rg.bind q fun ds hds q1 => ?_⟩
  clear hds
  intro vs H1 s1 r1 z1
  unfold zip2T at q1
  split at q1
  · rename_i e1 e2
    obtain ⟨v1, v2, rfl, t1, t2⟩ := reps2 r1
    cases g1 : sqT e1 with
    | ex c => exact (sqT_ex g1).elim
    | bad => rw [g1] at q1; exact (show False from q1).elim
    | ok d1 =>
      rw [g1] at q1
      simp only [bd_ok] at q1
      cases g2 : sqT e2 with
      | ex c => exact (sqT_ex g2).elim
      | bad => rw [g2] at q1; exact (show False from q1).elim
      | ok d2 =>
        rw [g2] at q1
        simp only [bd_ok] at q1
        obtain ⟨k1, a1, b1⟩ := seq_valsT g1 t1
        obtain ⟨sm1, ln1⟩ := sqT_small g1 z1.1
        have aa1 : SeqV k1 X.K H1 v1 := a1.mono hid_same
        obtain ⟨k2, a2, b2⟩ := seq_valsT g2 t2
        obtain ⟨sm2, ln2⟩ := sqT_small g2 z1.2.1
        have aa2 : SeqV k2 X.K H1 v2 := a2.mono hid_same
        refine ⟨v1, v2, k1, k2, rfl, aa1, aa2, fun c1 c2 i1 i2 => ?_⟩
        obtain ⟨xs1, m1, n1⟩ := b1 c1 i1
        obtain ⟨xs2, m2, n2⟩ := b2 c2 i2
        exact q1 _ H1 s1 (itd_z2 m1 n1 sm1 ln1 m2 n2 sm2 ln2)
  · exact (show False from q1).elim
end L2

set_option Elab.async false
set_option linter.all false
set_option maxRecDepth 100000
set_option maxHeartbeats 4000000
namespace K98
open PySem L2 Pg PyProof.Rows PySem.W
def top (i : Nat) : Stmt := PySem.Challenge.pw_tickrows_k98_whole_windows_and_gates.main.body.getD i (.Pass ⟨0, 0, 0, 0⟩)
abbrev s_value_at : Stmt := top 17
abbrev s_of_one_length : Stmt := top 5
abbrev s_refuse_unlike : Stmt := top 6
abbrev s_common_length : Stmt := top 7
abbrev s_values_of : Stmt := top 16
abbrev s_law_cell : Stmt := top 31
abbrev s_law_pick : Stmt := top 32
abbrev s_law_wave : Stmt := top 33
abbrev s_first_ticks_behind : Stmt := top 9
abbrev s_rolled : Stmt := top 13
abbrev s_turned_about : Stmt := top 8
abbrev s_both_at : Stmt := top 24
abbrev s_both : Stmt := top 21
abbrev s_either_at : Stmt := top 25
abbrev s_either : Stmt := top 22
abbrev s_unlike_at : Stmt := top 26
abbrev s_unlike : Stmt := top 23
abbrev s_no : Stmt := top 20
abbrev s_windows : Stmt := top 11
abbrev s_distance : Stmt := top 29
abbrev s_all_high : Stmt := top 14
abbrev s_window_counts : Stmt := top 12
abbrev s_tally : Stmt := top 28
abbrev s_law : Stmt := top 34
structure Tx (w : World) (K : PySem.W.Frag) (mg : Str → Option Value) (cTooLong cUnlike : Addr) : Prop where
  len : mg "len" = none
  range : mg "range" = none
  max : mg "max" = none
  all : mg "all" = none
  int : mg "int" = none
  zip : mg "zip" = none
  enumerate : mg "enumerate" = none
  reversed : mg "reversed" = none
  set : mg "set" = none
  sorted : mg "sorted" = none
  sum : mg "sum" = none
  TooLong : mg "TooLong" = some (.ref cTooLong)
  Unlike : mg "Unlike" = some (.ref cUnlike)
  D_OPPOSITES : ∃ a, mg "OPPOSITES" = some (.ref a) ∧ DcK w K a [([48], [49]), ([49], [48]), ([120], [120])]
  f_value_at : FnT K mg "value_at" s_value_at ["waves", "tick"]
  f_of_one_length : FnT K mg "of_one_length" s_of_one_length ["waves"]
  f_refuse_unlike : FnT K mg "refuse_unlike" s_refuse_unlike ["waves"]
  f_common_length : FnT K mg "common_length" s_common_length ["waves"]
  f_values_of : FnT K mg "values_of" s_values_of ["waves"]
  f__law_cell : FnT K mg "_law_cell" s_law_cell ["_law_script", "_law_k"]
  f__law_pick : FnT K mg "_law_pick" s_law_pick ["_law_script", "_law_k", "_law_many"]
  f__law_wave : FnT K mg "_law_wave" s_law_wave ["_law_script", "_law_at", "_law_many", "_law_signs"]
  f_first_ticks_behind : FnT K mg "first_ticks_behind" s_first_ticks_behind ["wave", "many"]
  f_rolled : FnT K mg "rolled" s_rolled ["wave", "by"]
  f_turned_about : FnT K mg "turned_about" s_turned_about ["wave"]
  f_both_at : FnT K mg "both_at" s_both_at ["first", "second"]
  f_both : FnT K mg "both" s_both ["one", "other"]
  f_either_at : FnT K mg "either_at" s_either_at ["first", "second"]
  f_either : FnT K mg "either" s_either ["one", "other"]
  f_unlike_at : FnT K mg "unlike_at" s_unlike_at ["first", "second"]
  f_unlike : FnT K mg "unlike" s_unlike ["one", "other"]
  f_no : FnT K mg "no" s_no ["wave"]
  f_windows : FnT K mg "windows" s_windows ["wave", "many"]
  f_distance : FnT K mg "distance" s_distance ["one", "other"]
  f_all_high : FnT K mg "all_high" s_all_high ["waves"]
  f_window_counts : FnT K mg "window_counts" s_window_counts ["wave", "many"]
  f_tally : FnT K mg "tally" s_tally ["wave"]
  f_law : FnT K mg "law" s_law ["_law_script"]
  x_TooLong : excIn K cTooLong veMro "ValueError.__new__" = true
  x_Unlike : excIn K cUnlike veMro "ValueError.__new__" = true
section
variable {P : Program} {w : World} {K : PySem.W.Frag} {mg : Str → Option Value} {base : Heap} {cTooLong cUnlike : Addr}
abbrev cl (cTooLong cUnlike : Addr) : Nat → Addr := fun c => match c with
  | 5 => cTooLong
  | 6 => cUnlike
  | _ => 0
theorem sc_value_at : FnScope ["waves", "tick", "levels"] ["waves", "tick"] (defScope s_value_at) := ⟨rfl, rfl, rfl, by decide +kernel, rfl, by decide +kernel, by decide +kernel⟩
theorem ok_value_at (T : Tx w K mg cTooLong cUnlike) : Cal P w K mg base (CX1 P w) 1 "value_at" ["waves", "tick"] (spM K (cl cTooLong cUnlike) F_value_at) := by
  obtain ⟨f, fd, F, hm, hb⟩ := T.f_value_at
  have SC := sc_value_at
  refine ⟨f, fd, ?_, hm, F.kp, hb⟩
  refine fn_ok (b := B_value_at) F SC rfl rfl fun cdv A outer s H E hr R => ?_
  exact (bv_cons (sv_setComp (i := 2) (N := ["wave", "tick"]) (k := 1) (fr := [1]) (gk_nm (by decide)) rfl ⟨rfl, rfl, rfl, rfl, rfl, rfl⟩ (iv_of (ev_var (pv 0))) (fun _ _ _ _ => (gv_name (pg_name (i := 0) (show List.Nodup (α := Str) ["wave", "tick"] from by decide +kernel) rfl (Or.inl rfl) (Or.inr rfl)))) (fun _ _ _ _ => tv_none) (fun _ _ _ _ => (ev_ix (ev_var (pv 0)) (ev_var (pv 1)) (fun _ _ => rfl))) SC.nd rfl rfl)
      (bv_cons (sv_if (tv_cmp od_in (ev_S (l := [120])) (ev_var (pv 2)) (by with_unfolding_all rfl)) (bv_one (sv_ret ev_non)) bv_nil)
      (bv_one (sv_ret (ev_callB (cd_sum rfl) (by rfl) T.sum (show PySem.bootBuiltins "sum" = some (.builtin "sum") from by decide +kernel) (av_cons rfl (ev_comp (N := ["place", "level"]) (k := 2) (fr := []) (gk_tp (gks_cons (gk_nm (by decide)) (gks_cons (gk_nm (by decide)) gks_nil))) rfl ⟨rfl, rfl, rfl, rfl, rfl, rfl⟩ (iv_enum (by rfl) T.enumerate (av_cons rfl (ev_var (pv 2)) av_nil)) (fun _ _ _ _ => (gv_tup (n := 2) rfl (gvs_cons (gv_name (pg_name (i := 0) (show List.Nodup (α := Str) ["place", "level"] from by decide +kernel) rfl (Or.inl rfl) (Or.inr rfl))) (gvs_cons (gv_name (pg_name (i := 1) (show List.Nodup (α := Str) ["place", "level"] from by decide +kernel) rfl (Or.inl rfl) (Or.inr rfl))) gvs_nil)))) (fun _ _ _ _ => tv_none) (fun _ _ _ _ => (ev_op od_shl (ev_callTy cd_int (by rfl) T.int boot_int (av_cons rfl (ev_var (pv 1)) av_nil)) (ev_var (pv 0))))) av_nil))))))
theorem sc_of_one_length : FnScope ["waves"] ["waves"] (defScope s_of_one_length) := ⟨rfl, rfl, rfl, by decide +kernel, rfl, by decide +kernel, by decide +kernel⟩
theorem ok_of_one_length (T : Tx w K mg cTooLong cUnlike) : Cal P w K mg base (CX1 P w) 1 "of_one_length" ["waves"] (spM K (cl cTooLong cUnlike) F_of_one_length) := by
  obtain ⟨f, fd, F, hm, hb⟩ := T.f_of_one_length
  have SC := sc_of_one_length
  refine ⟨f, fd, ?_, hm, F.kp, hb⟩
  refine fn_ok (b := B_of_one_length) F SC rfl rfl fun cdv A outer s H E hr R => ?_
  exact (bv_one (sv_ret (ev_callB (cd_all rfl) (by rfl) T.all boot_all (av_cons rfl (ev_comp (N := ["wave", "waves"]) (k := 1) (fr := [0]) (gk_nm (by decide)) rfl ⟨rfl, rfl, rfl, rfl, rfl, rfl⟩ (iv_of (ev_var (pv 0))) (fun _ _ _ _ => (gv_name (pg_name (i := 0) (show List.Nodup (α := Str) ["wave", "waves"] from by decide +kernel) rfl (Or.inl rfl) (Or.inr rfl)))) (fun _ _ _ _ => tv_none) (fun _ _ _ _ => (ev_cmp (od_eq (hu50 hr)) (ev_callB cd_len (by rfl) T.len PySem.boot_len (av_cons rfl (ev_var (pv 0)) av_nil)) (ev_callB cd_len (by rfl) T.len PySem.boot_len (av_cons rfl (ev_ix (ev_var (pv 1)) ev_int (fun _ _ => rfl)) av_nil)) (nomark _)))) av_nil))))
theorem sc_refuse_unlike : FnScope ["waves"] ["waves"] (defScope s_refuse_unlike) := ⟨rfl, rfl, rfl, by decide +kernel, rfl, by decide +kernel, by decide +kernel⟩
theorem ok_refuse_unlike (T : Tx w K mg cTooLong cUnlike) : Cal P w K mg base (CX1 P w) 2 "refuse_unlike" ["waves"] (spM K (cl cTooLong cUnlike) F_refuse_unlike) := by
  obtain ⟨f, fd, F, hm, hb⟩ := T.f_refuse_unlike
  have SC := sc_refuse_unlike
  have Cof_one_length := ok_of_one_length (P := P) (w := w) (base := base) T
  refine ⟨f, fd, ?_, hm, F.kp, hb⟩
  refine fn_ok (b := B_refuse_unlike) F SC rfl rfl fun cdv A outer s H E hr R => ?_
  exact (bv_one (sv_if (tv_not (tv_val (ev_cal Cof_one_length (hr.mono (by decide)) R.pass (av_cons rfl (ev_var (pv 0)) av_nil)))) (bv_one (sv_raise (cn := 6) rfl R (by rfl) (by exact T.Unlike) (by exact T.x_Unlike) (uv_of (ev_S (l := [116, 104, 101, 32, 119, 97, 118, 101, 115, 32, 104, 97, 118, 101, 32, 117, 110, 108, 105, 107, 101, 32, 108, 101, 110, 103, 116, 104, 115]))))) bv_nil))
theorem sc_common_length : FnScope ["waves"] ["waves"] (defScope s_common_length) := ⟨rfl, rfl, rfl, by decide +kernel, rfl, by decide +kernel, by decide +kernel⟩
theorem ok_common_length (T : Tx w K mg cTooLong cUnlike) : Cal P w K mg base (CX1 P w) 3 "common_length" ["waves"] (spM K (cl cTooLong cUnlike) F_common_length) := by
  obtain ⟨f, fd, F, hm, hb⟩ := T.f_common_length
  have SC := sc_common_length
  have Crefuse_unlike := ok_refuse_unlike (P := P) (w := w) (base := base) T
  refine ⟨f, fd, ?_, hm, F.kp, hb⟩
  refine fn_ok (b := B_common_length) F SC rfl rfl fun cdv A outer s H E hr R => ?_
  exact (bv_cons (sv_drop (ev_cal Crefuse_unlike (hr.mono (by decide)) R.pass (av_cons rfl (ev_var (pv 0)) av_nil)))
      (bv_one (sv_ret (ev_maxD rfl (by rfl) T.max (ev_comp (N := ["wave"]) (k := 1) (fr := []) (gk_nm (by decide)) rfl ⟨rfl, rfl, rfl, rfl, rfl, rfl⟩ (iv_of (ev_var (pv 0))) (fun _ _ _ _ => (gv_name (pg_name (i := 0) (show List.Nodup (α := Str) ["wave"] from by decide +kernel) rfl (Or.inl rfl) (Or.inr rfl)))) (fun _ _ _ _ => tv_none) (fun _ _ _ _ => (ev_callB cd_len (by rfl) T.len PySem.boot_len (av_cons rfl (ev_var (pv 0)) av_nil)))) rfl ev_int))))
theorem sc_values_of : FnScope ["waves"] ["waves"] (defScope s_values_of) := ⟨rfl, rfl, rfl, by decide +kernel, rfl, by decide +kernel, by decide +kernel⟩
theorem ok_values_of (T : Tx w K mg cTooLong cUnlike) : Cal P w K mg base (CX1 P w) 4 "values_of" ["waves"] (spM K (cl cTooLong cUnlike) F_values_of) := by
  obtain ⟨f, fd, F, hm, hb⟩ := T.f_values_of
  have SC := sc_values_of
  have Cvalue_at := ok_value_at (P := P) (w := w) (base := base) T
  have Ccommon_length := ok_common_length (P := P) (w := w) (base := base) T
  refine ⟨f, fd, ?_, hm, F.kp, hb⟩
  refine fn_ok (b := B_values_of) F SC rfl rfl fun cdv A outer s H E hr R => ?_
  exact (bv_one (sv_ret (ev_comp (N := ["tick", "waves"]) (k := 1) (fr := [0]) (gk_nm (by decide)) rfl ⟨rfl, rfl, rfl, rfl, rfl, rfl⟩ (iv_range1 (by rfl) T.range (av_cons rfl (ev_cal Ccommon_length (hr.mono (by decide)) R.pass (av_cons rfl (ev_var (pv 0)) av_nil)) av_nil)) (fun _ _ _ _ => (gv_name (pg_name (i := 0) (show List.Nodup (α := Str) ["tick", "waves"] from by decide +kernel) rfl (Or.inl rfl) (Or.inr rfl)))) (fun _ _ _ _ => tv_none) (fun _ _ _ _ => (ev_cal Cvalue_at (hr.mono (by decide)) pass_no (av_cons rfl (ev_var (pv 1)) (av_cons rfl (ev_var (pv 0)) av_nil)))))))
theorem sc_law_cell : FnScope ["_law_script", "_law_k"] ["_law_script", "_law_k"] (defScope s_law_cell) := ⟨rfl, rfl, rfl, by decide +kernel, rfl, by decide +kernel, by decide +kernel⟩
theorem ok__law_cell (T : Tx w K mg cTooLong cUnlike) : Cal P w K mg base (CX1 P w) 1 "_law_cell" ["_law_script", "_law_k"] (spM K (cl cTooLong cUnlike) F_L_cell) := by
  obtain ⟨f, fd, F, hm, hb⟩ := T.f__law_cell
  have SC := sc_law_cell
  refine ⟨f, fd, ?_, hm, F.kp, hb⟩
  refine fn_ok (b := B_L_cell) F SC rfl rfl fun cdv A outer s H E hr R => ?_
  exact (bv_cons (sv_if (tv_cmp od_lt (ev_var (pv 1)) (ev_callB cd_len (by rfl) T.len PySem.boot_len (av_cons rfl (ev_var (pv 0)) av_nil)) (nomark _)) (bv_one (sv_ret (ev_ix (ev_var (pv 0)) (ev_var (pv 1)) (fun _ _ => rfl)))) bv_nil)
      (bv_cons (sv_if (tv_cmp (od_eq (hu50 hr)) (ev_var (pv 0)) (ev_lst av_nil) (nomark _)) (bv_one (sv_ret ev_int)) bv_nil)
      (bv_one (sv_ret (ev_op od_add (ev_op od_mul (ev_ix (ev_var (pv 0)) (ev_op od_mod (ev_var (pv 1)) (ev_callB cd_len (by rfl) T.len PySem.boot_len (av_cons rfl (ev_var (pv 0)) av_nil))) (fun _ _ => rfl)) ev_int) (ev_var (pv 1)))))))
theorem sc_law_pick : FnScope ["_law_script", "_law_k", "_law_many", "_law_drawn"] ["_law_script", "_law_k", "_law_many"] (defScope s_law_pick) := ⟨rfl, rfl, rfl, by decide +kernel, rfl, by decide +kernel, by decide +kernel⟩
theorem ok__law_pick (T : Tx w K mg cTooLong cUnlike) : Cal P w K mg base (CX1 P w) 2 "_law_pick" ["_law_script", "_law_k", "_law_many"] (spM K (cl cTooLong cUnlike) F_L_pick) := by
  obtain ⟨f, fd, F, hm, hb⟩ := T.f__law_pick
  have SC := sc_law_pick
  have CL_cell := ok__law_cell (P := P) (w := w) (base := base) T
  refine ⟨f, fd, ?_, hm, F.kp, hb⟩
  refine fn_ok (b := B_L_pick) F SC rfl rfl fun cdv A outer s H E hr R => ?_
  exact (bv_cons (sv_set (i := 3) SC.nd rfl (Or.inl rfl) (ev_op od_mod (ev_op od_mul (ev_op od_add (ev_cal CL_cell (hr.mono (by decide)) R.pass (av_cons rfl (ev_var (pv 0)) (av_cons rfl (ev_var (pv 1)) av_nil))) (ev_op od_mul ev_int (ev_op od_add (ev_var (pv 1)) ev_int))) ev_int) ev_int))
      (bv_one (sv_ret (ev_op od_mod (ev_op od_mod (ev_op od_add (ev_op od_mul (ev_var (pv 3)) (ev_var (pv 3))) (ev_op od_div (ev_var (pv 3)) ev_int)) ev_int) (ev_var (pv 2))))))
theorem sc_law_wave : FnScope ["_law_script", "_law_at", "_law_many", "_law_signs", "_law_made", "_law_k"] ["_law_script", "_law_at", "_law_many", "_law_signs"] (defScope s_law_wave) := ⟨rfl, rfl, rfl, by decide +kernel, rfl, by decide +kernel, by decide +kernel⟩
theorem ok__law_wave (T : Tx w K mg cTooLong cUnlike) : Cal P w K mg base (CX1 P w) 3 "_law_wave" ["_law_script", "_law_at", "_law_many", "_law_signs"] (spM K (cl cTooLong cUnlike) F_L_wave) := by
  obtain ⟨f, fd, F, hm, hb⟩ := T.f__law_wave
  have SC := sc_law_wave
  have CL_pick := ok__law_pick (P := P) (w := w) (base := base) T
  refine ⟨f, fd, ?_, hm, F.kp, hb⟩
  refine fn_ok (b := B_L_wave) F SC rfl rfl fun cdv A outer s H E hr R => ?_
  exact (bv_cons (sv_set (i := 4) SC.nd rfl (Or.inl rfl) (ev_ix (ev_var (pv 3)) (ev_cal CL_pick (hr.mono (by decide)) R.pass (av_cons rfl (ev_var (pv 0)) (av_cons rfl (ev_var (pv 1)) (av_cons rfl (ev_callB cd_len (by rfl) T.len PySem.boot_len (av_cons rfl (ev_var (pv 3)) av_nil)) av_nil)))) (fun _ _ => rfl)))
      (bv_cons (sv_for0 rfl (iv_range2 (by rfl) T.range (av_cons rfl ev_int (av_cons rfl (ev_var (pv 2)) av_nil))) (gv_name (pg_name (i := 5) SC.nd rfl (Or.inl rfl))) (bv_one (sv_if (tv_cmp (od_eq (hu50 hr)) (ev_cal CL_pick (hr.mono (by decide)) pass_no (av_cons rfl (ev_var (pv 0)) (av_cons rfl (ev_op od_add (ev_var (pv 1)) (ev_op od_mul ev_int (ev_var (pv 5)))) (av_cons rfl ev_int av_nil)))) ev_int (nomark _)) (bv_one (sv_set (i := 4) SC.nd rfl (Or.inl rfl) (ev_op od_add (ev_var (pv 4)) (ev_ix (ev_var (pv 4)) (ev_neg ev_int) (fun _ _ => rfl))))) (bv_one (sv_set (i := 4) SC.nd rfl (Or.inl rfl) (ev_op od_add (ev_var (pv 4)) (ev_ix (ev_var (pv 3)) (ev_cal CL_pick (hr.mono (by decide)) pass_no (av_cons rfl (ev_var (pv 0)) (av_cons rfl (ev_op od_add (ev_op od_add (ev_var (pv 1)) (ev_op od_mul ev_int (ev_var (pv 5)))) ev_int) (av_cons rfl (ev_callB cd_len (by rfl) T.len PySem.boot_len (av_cons rfl (ev_var (pv 3)) av_nil)) av_nil)))) (fun _ _ => rfl))))))))
      (bv_one (sv_ret (ev_var (pv 4))))))
theorem sc_first_ticks_behind : FnScope ["wave", "many"] ["wave", "many"] (defScope s_first_ticks_behind) := ⟨rfl, rfl, rfl, by decide +kernel, rfl, by decide +kernel, by decide +kernel⟩
theorem ok_first_ticks_behind (T : Tx w K mg cTooLong cUnlike) : Cal P w K mg base (CX1 P w) 1 "first_ticks_behind" ["wave", "many"] (spM K (cl cTooLong cUnlike) F_first_ticks_behind) := by
  obtain ⟨f, fd, F, hm, hb⟩ := T.f_first_ticks_behind
  have SC := sc_first_ticks_behind
  refine ⟨f, fd, ?_, hm, F.kp, hb⟩
  refine fn_ok (b := B_first_ticks_behind) F SC rfl rfl fun cdv A outer s H E hr R => ?_
  exact (bv_one (sv_ret (ev_op od_add (ev_slice (ev_var (pv 0)) (ov_some (ev_var (pv 1))) ov_none) (ev_slice (ev_var (pv 0)) ov_none (ov_some (ev_var (pv 1)))))))
theorem sc_rolled : FnScope ["wave", "by"] ["wave", "by"] (defScope s_rolled) := ⟨rfl, rfl, rfl, by decide +kernel, rfl, by decide +kernel, by decide +kernel⟩
theorem ok_rolled (T : Tx w K mg cTooLong cUnlike) : Cal P w K mg base (CX1 P w) 2 "rolled" ["wave", "by"] (spM K (cl cTooLong cUnlike) F_rolled) := by
  obtain ⟨f, fd, F, hm, hb⟩ := T.f_rolled
  have SC := sc_rolled
  have Cfirst_ticks_behind := ok_first_ticks_behind (P := P) (w := w) (base := base) T
  refine ⟨f, fd, ?_, hm, F.kp, hb⟩
  refine fn_ok (b := B_rolled) F SC rfl rfl fun cdv A outer s H E hr R => ?_
  exact (bv_one (sv_ret (ev_cal Cfirst_ticks_behind (hr.mono (by decide)) R.pass (av_cons rfl (ev_var (pv 0)) (av_cons rfl (ev_op od_mod (ev_neg (ev_var (pv 1))) (ev_callB (cd_max rfl) (by rfl) T.max boot_max (av_cons rfl (ev_callB cd_len (by rfl) T.len PySem.boot_len (av_cons rfl (ev_var (pv 0)) av_nil)) (av_cons rfl ev_int av_nil)))) av_nil)))))
theorem sc_turned_about : FnScope ["wave"] ["wave"] (defScope s_turned_about) := ⟨rfl, rfl, rfl, by decide +kernel, rfl, by decide +kernel, by decide +kernel⟩
theorem ok_turned_about (T : Tx w K mg cTooLong cUnlike) : Cal P w K mg base (CX1 P w) 1 "turned_about" ["wave"] (spM K (cl cTooLong cUnlike) F_turned_about) := by
  obtain ⟨f, fd, F, hm, hb⟩ := T.f_turned_about
  have SC := sc_turned_about
  refine ⟨f, fd, ?_, hm, F.kp, hb⟩
  refine fn_ok (b := B_turned_about) F SC rfl rfl fun cdv A outer s H E hr R => ?_
  exact (bv_one (sv_ret (ev_revj rfl (by rfl) T.reversed (ev_var (pv 0)) rfl)))
theorem sc_both_at : FnScope ["first", "second"] ["first", "second"] (defScope s_both_at) := ⟨rfl, rfl, rfl, by decide +kernel, rfl, by decide +kernel, by decide +kernel⟩
theorem ok_both_at (T : Tx w K mg cTooLong cUnlike) : Cal P w K mg base (CX1 P w) 1 "both_at" ["first", "second"] (spM K (cl cTooLong cUnlike) F_both_at) := by
  obtain ⟨f, fd, F, hm, hb⟩ := T.f_both_at
  have SC := sc_both_at
  refine ⟨f, fd, ?_, hm, F.kp, hb⟩
  refine fn_ok (b := B_both_at) F SC rfl rfl fun cdv A outer s H E hr R => ?_
  exact (bv_cons (sv_if (PW.pt (wv_or (tv_cmp (od_eq (hu50 hr)) (ev_var (pv 0)) (ev_S (l := [48])) (nomark _)) (wv_or1 (tv_cmp (od_eq (hu50 hr)) (ev_var (pv 1)) (ev_S (l := [48])) (nomark _))))) (bv_one (sv_ret (ev_S (l := [48])))) bv_nil)
      (bv_cons (sv_if (PW.pt (wv_or (tv_cmp (od_eq (hu50 hr)) (ev_var (pv 0)) (ev_S (l := [120])) (nomark _)) (wv_or1 (tv_cmp (od_eq (hu50 hr)) (ev_var (pv 1)) (ev_S (l := [120])) (nomark _))))) (bv_one (sv_ret (ev_S (l := [120])))) bv_nil)
      (bv_one (sv_ret (ev_S (l := [49]))))))
theorem sc_both : FnScope ["one", "other"] ["one", "other"] (defScope s_both) := ⟨rfl, rfl, rfl, by decide +kernel, rfl, by decide +kernel, by decide +kernel⟩
theorem ok_both (T : Tx w K mg cTooLong cUnlike) : Cal P w K mg base (CX1 P w) 3 "both" ["one", "other"] (spM K (cl cTooLong cUnlike) F_both) := by
  obtain ⟨f, fd, F, hm, hb⟩ := T.f_both
  have SC := sc_both
  have Crefuse_unlike := ok_refuse_unlike (P := P) (w := w) (base := base) T
  have Cboth_at := ok_both_at (P := P) (w := w) (base := base) T
  refine ⟨f, fd, ?_, hm, F.kp, hb⟩
  refine fn_ok (b := B_both) F SC rfl rfl fun cdv A outer s H E hr R => ?_
  exact (bv_cons (sv_drop (ev_cal Crefuse_unlike (hr.mono (by decide)) R.pass (av_cons rfl (ev_lst (av_cons rfl (ev_var (pv 0)) (av_cons rfl (ev_var (pv 1)) av_nil))) av_nil)))
      (bv_one (sv_ret (ev_join (av_cons rfl (ev_comp (N := ["first", "second"]) (k := 2) (fr := []) (gk_tp (gks_cons (gk_nm (by decide)) (gks_cons (gk_nm (by decide)) gks_nil))) rfl ⟨rfl, rfl, rfl, rfl, rfl, rfl⟩ (iv_zip2 (by rfl) T.zip (av_cons rfl (ev_var (pv 0)) (av_cons rfl (ev_var (pv 1)) av_nil))) (fun _ _ _ _ => (gv_tup (n := 2) rfl (gvs_cons (gv_name (pg_name (i := 0) (show List.Nodup (α := Str) ["first", "second"] from by decide +kernel) rfl (Or.inl rfl) (Or.inr rfl))) (gvs_cons (gv_name (pg_name (i := 1) (show List.Nodup (α := Str) ["first", "second"] from by decide +kernel) rfl (Or.inl rfl) (Or.inr rfl))) gvs_nil)))) (fun _ _ _ _ => tv_none) (fun _ _ _ _ => (ev_cal Cboth_at (hr.mono (by decide)) pass_no (av_cons rfl (ev_var (pv 0)) (av_cons rfl (ev_var (pv 1)) av_nil))))) av_nil) rfl))))
theorem sc_either_at : FnScope ["first", "second"] ["first", "second"] (defScope s_either_at) := ⟨rfl, rfl, rfl, by decide +kernel, rfl, by decide +kernel, by decide +kernel⟩
theorem ok_either_at (T : Tx w K mg cTooLong cUnlike) : Cal P w K mg base (CX1 P w) 1 "either_at" ["first", "second"] (spM K (cl cTooLong cUnlike) F_either_at) := by
  obtain ⟨f, fd, F, hm, hb⟩ := T.f_either_at
  have SC := sc_either_at
  refine ⟨f, fd, ?_, hm, F.kp, hb⟩
  refine fn_ok (b := B_either_at) F SC rfl rfl fun cdv A outer s H E hr R => ?_
  exact (bv_cons (sv_if (PW.pt (wv_or (tv_cmp (od_eq (hu50 hr)) (ev_var (pv 0)) (ev_S (l := [49])) (nomark _)) (wv_or1 (tv_cmp (od_eq (hu50 hr)) (ev_var (pv 1)) (ev_S (l := [49])) (nomark _))))) (bv_one (sv_ret (ev_S (l := [49])))) bv_nil)
      (bv_cons (sv_if (PW.pt (wv_or (tv_cmp (od_eq (hu50 hr)) (ev_var (pv 0)) (ev_S (l := [120])) (nomark _)) (wv_or1 (tv_cmp (od_eq (hu50 hr)) (ev_var (pv 1)) (ev_S (l := [120])) (nomark _))))) (bv_one (sv_ret (ev_S (l := [120])))) bv_nil)
      (bv_one (sv_ret (ev_S (l := [48]))))))
theorem sc_either : FnScope ["one", "other"] ["one", "other"] (defScope s_either) := ⟨rfl, rfl, rfl, by decide +kernel, rfl, by decide +kernel, by decide +kernel⟩
theorem ok_either (T : Tx w K mg cTooLong cUnlike) : Cal P w K mg base (CX1 P w) 3 "either" ["one", "other"] (spM K (cl cTooLong cUnlike) F_either) := by
  obtain ⟨f, fd, F, hm, hb⟩ := T.f_either
  have SC := sc_either
  have Crefuse_unlike := ok_refuse_unlike (P := P) (w := w) (base := base) T
  have Ceither_at := ok_either_at (P := P) (w := w) (base := base) T
  refine ⟨f, fd, ?_, hm, F.kp, hb⟩
  refine fn_ok (b := B_either) F SC rfl rfl fun cdv A outer s H E hr R => ?_
  exact (bv_cons (sv_drop (ev_cal Crefuse_unlike (hr.mono (by decide)) R.pass (av_cons rfl (ev_lst (av_cons rfl (ev_var (pv 0)) (av_cons rfl (ev_var (pv 1)) av_nil))) av_nil)))
      (bv_one (sv_ret (ev_join (av_cons rfl (ev_comp (N := ["first", "second"]) (k := 2) (fr := []) (gk_tp (gks_cons (gk_nm (by decide)) (gks_cons (gk_nm (by decide)) gks_nil))) rfl ⟨rfl, rfl, rfl, rfl, rfl, rfl⟩ (iv_zip2 (by rfl) T.zip (av_cons rfl (ev_var (pv 0)) (av_cons rfl (ev_var (pv 1)) av_nil))) (fun _ _ _ _ => (gv_tup (n := 2) rfl (gvs_cons (gv_name (pg_name (i := 0) (show List.Nodup (α := Str) ["first", "second"] from by decide +kernel) rfl (Or.inl rfl) (Or.inr rfl))) (gvs_cons (gv_name (pg_name (i := 1) (show List.Nodup (α := Str) ["first", "second"] from by decide +kernel) rfl (Or.inl rfl) (Or.inr rfl))) gvs_nil)))) (fun _ _ _ _ => tv_none) (fun _ _ _ _ => (ev_cal Ceither_at (hr.mono (by decide)) pass_no (av_cons rfl (ev_var (pv 0)) (av_cons rfl (ev_var (pv 1)) av_nil))))) av_nil) rfl))))
theorem sc_unlike_at : FnScope ["first", "second"] ["first", "second"] (defScope s_unlike_at) := ⟨rfl, rfl, rfl, by decide +kernel, rfl, by decide +kernel, by decide +kernel⟩
theorem ok_unlike_at (T : Tx w K mg cTooLong cUnlike) : Cal P w K mg base (CX1 P w) 1 "unlike_at" ["first", "second"] (spM K (cl cTooLong cUnlike) F_unlike_at) := by
  obtain ⟨f, fd, F, hm, hb⟩ := T.f_unlike_at
  have SC := sc_unlike_at
  refine ⟨f, fd, ?_, hm, F.kp, hb⟩
  refine fn_ok (b := B_unlike_at) F SC rfl rfl fun cdv A outer s H E hr R => ?_
  exact (bv_cons (sv_if (PW.pt (wv_or (tv_cmp (od_eq (hu50 hr)) (ev_var (pv 0)) (ev_S (l := [120])) (nomark _)) (wv_or1 (tv_cmp (od_eq (hu50 hr)) (ev_var (pv 1)) (ev_S (l := [120])) (nomark _))))) (bv_one (sv_ret (ev_S (l := [120])))) bv_nil)
      (bv_one (sv_ret (ev_if (tv_cmp (od_eq (hu50 hr)) (ev_var (pv 0)) (ev_var (pv 1)) (nomark _)) (ev_S (l := [48])) (ev_S (l := [49]))))))
theorem sc_unlike : FnScope ["one", "other"] ["one", "other"] (defScope s_unlike) := ⟨rfl, rfl, rfl, by decide +kernel, rfl, by decide +kernel, by decide +kernel⟩
theorem ok_unlike (T : Tx w K mg cTooLong cUnlike) : Cal P w K mg base (CX1 P w) 3 "unlike" ["one", "other"] (spM K (cl cTooLong cUnlike) F_unlike) := by
  obtain ⟨f, fd, F, hm, hb⟩ := T.f_unlike
  have SC := sc_unlike
  have Crefuse_unlike := ok_refuse_unlike (P := P) (w := w) (base := base) T
  have Cunlike_at := ok_unlike_at (P := P) (w := w) (base := base) T
  refine ⟨f, fd, ?_, hm, F.kp, hb⟩
  refine fn_ok (b := B_unlike) F SC rfl rfl fun cdv A outer s H E hr R => ?_
  exact (bv_cons (sv_drop (ev_cal Crefuse_unlike (hr.mono (by decide)) R.pass (av_cons rfl (ev_lst (av_cons rfl (ev_var (pv 0)) (av_cons rfl (ev_var (pv 1)) av_nil))) av_nil)))
      (bv_one (sv_ret (ev_join (av_cons rfl (ev_comp (N := ["first", "second"]) (k := 2) (fr := []) (gk_tp (gks_cons (gk_nm (by decide)) (gks_cons (gk_nm (by decide)) gks_nil))) rfl ⟨rfl, rfl, rfl, rfl, rfl, rfl⟩ (iv_zip2 (by rfl) T.zip (av_cons rfl (ev_var (pv 0)) (av_cons rfl (ev_var (pv 1)) av_nil))) (fun _ _ _ _ => (gv_tup (n := 2) rfl (gvs_cons (gv_name (pg_name (i := 0) (show List.Nodup (α := Str) ["first", "second"] from by decide +kernel) rfl (Or.inl rfl) (Or.inr rfl))) (gvs_cons (gv_name (pg_name (i := 1) (show List.Nodup (α := Str) ["first", "second"] from by decide +kernel) rfl (Or.inl rfl) (Or.inr rfl))) gvs_nil)))) (fun _ _ _ _ => tv_none) (fun _ _ _ _ => (ev_cal Cunlike_at (hr.mono (by decide)) pass_no (av_cons rfl (ev_var (pv 0)) (av_cons rfl (ev_var (pv 1)) av_nil))))) av_nil) rfl))))
theorem sc_no : FnScope ["wave"] ["wave"] (defScope s_no) := ⟨rfl, rfl, rfl, by decide +kernel, rfl, by decide +kernel, by decide +kernel⟩
theorem ok_no (T : Tx w K mg cTooLong cUnlike) : Cal P w K mg base (CX1 P w) 1 "no" ["wave"] (spM K (cl cTooLong cUnlike) F_no) := by
  obtain ⟨f, fd, F, hm, hb⟩ := T.f_no
  have SC := sc_no
  refine ⟨f, fd, ?_, hm, F.kp, hb⟩
  refine fn_ok (b := B_no) F SC rfl rfl fun cdv A outer s H E hr R => ?_
  exact (bv_one (sv_ret (ev_join (av_cons rfl (ev_comp (N := ["level"]) (k := 1) (fr := []) (gk_nm (by decide)) rfl ⟨rfl, rfl, rfl, rfl, rfl, rfl⟩ (iv_of (ev_var (pv 0))) (fun _ _ _ _ => (gv_name (pg_name (i := 0) (show List.Nodup (α := Str) ["level"] from by decide +kernel) rfl (Or.inl rfl) (Or.inr rfl)))) (fun _ _ _ _ => tv_none) (fun _ _ _ _ => (ev_dgetG T.D_OPPOSITES.choose_spec.2 (by rfl) T.D_OPPOSITES.choose_spec.1 (ev_var (pv 0)) (fun _ _ => rfl)))) av_nil) rfl)))
theorem sc_windows : FnScope ["wave", "many"] ["wave", "many"] (defScope s_windows) := ⟨rfl, rfl, rfl, by decide +kernel, rfl, by decide +kernel, by decide +kernel⟩
theorem ok_windows (T : Tx w K mg cTooLong cUnlike) : Cal P w K mg base (CX1 P w) 1 "windows" ["wave", "many"] (spM K (cl cTooLong cUnlike) F_windows) := by
  obtain ⟨f, fd, F, hm, hb⟩ := T.f_windows
  have SC := sc_windows
  refine ⟨f, fd, ?_, hm, F.kp, hb⟩
  refine fn_ok (b := B_windows) F SC rfl rfl fun cdv A outer s H E hr R => ?_
  exact (bv_cons (sv_if (tv_not (tv_chain od_le od_le ev_int (ev_var (pv 1)) (ev_callB cd_len (by rfl) T.len PySem.boot_len (av_cons rfl (ev_var (pv 0)) av_nil)))) (bv_one (sv_raise (cn := 5) rfl R (by rfl) (by exact T.TooLong) (by exact T.x_TooLong) (uv_f3 (ev_var (pv 1))))) bv_nil)
      (bv_one (sv_ret (ev_comp (N := ["tick", "wave", "many"]) (k := 1) (fr := [0, 1]) (gk_nm (by decide)) rfl ⟨rfl, rfl, rfl, rfl, rfl, rfl⟩ (iv_range1 (by rfl) T.range (av_cons rfl (ev_op od_add (ev_op od_sub (ev_callB cd_len (by rfl) T.len PySem.boot_len (av_cons rfl (ev_var (pv 0)) av_nil)) (ev_var (pv 1))) ev_int) av_nil)) (fun _ _ _ _ => (gv_name (pg_name (i := 0) (show List.Nodup (α := Str) ["tick", "wave", "many"] from by decide +kernel) rfl (Or.inl rfl) (Or.inr rfl)))) (fun _ _ _ _ => tv_none) (fun _ _ _ _ => (ev_slice (ev_var (pv 1)) (ov_some (ev_var (pv 0))) (ov_some (ev_op od_add (ev_var (pv 0)) (ev_var (pv 2))))))))))
theorem sc_distance : FnScope ["one", "other"] ["one", "other"] (defScope s_distance) := ⟨rfl, rfl, rfl, by decide +kernel, rfl, by decide +kernel, by decide +kernel⟩
theorem ok_distance (T : Tx w K mg cTooLong cUnlike) : Cal P w K mg base (CX1 P w) 3 "distance" ["one", "other"] (spM K (cl cTooLong cUnlike) F_distance) := by
  obtain ⟨f, fd, F, hm, hb⟩ := T.f_distance
  have SC := sc_distance
  have Crefuse_unlike := ok_refuse_unlike (P := P) (w := w) (base := base) T
  refine ⟨f, fd, ?_, hm, F.kp, hb⟩
  refine fn_ok (b := B_distance) F SC rfl rfl fun cdv A outer s H E hr R => ?_
  exact (bv_cons (sv_drop (ev_cal Crefuse_unlike (hr.mono (by decide)) R.pass (av_cons rfl (ev_lst (av_cons rfl (ev_var (pv 0)) (av_cons rfl (ev_var (pv 1)) av_nil))) av_nil)))
      (bv_one (sv_ret (ev_callB cd_len (by rfl) T.len PySem.boot_len (av_cons rfl (ev_comp (N := ["tick", "one", "other"]) (k := 1) (fr := [0, 1]) (gk_nm (by decide)) rfl ⟨rfl, rfl, rfl, rfl, rfl, rfl⟩ (iv_range1 (by rfl) T.range (av_cons rfl (ev_callB cd_len (by rfl) T.len PySem.boot_len (av_cons rfl (ev_var (pv 0)) av_nil)) av_nil)) (fun _ _ _ _ => (gv_name (pg_name (i := 0) (show List.Nodup (α := Str) ["tick", "one", "other"] from by decide +kernel) rfl (Or.inl rfl) (Or.inr rfl)))) (fun _ _ _ _ => (tv_one (tv_cmp (od_ne (hu50 hr)) (ev_ix (ev_var (pv 1)) (ev_var (pv 0)) (fun _ _ => rfl)) (ev_ix (ev_var (pv 2)) (ev_var (pv 0)) (fun _ _ => rfl)) (nomark _)))) (fun _ _ _ _ => (ev_var (pv 0)))) av_nil)))))
theorem sc_all_high : FnScope ["waves"] ["waves"] (defScope s_all_high) := ⟨rfl, rfl, rfl, by decide +kernel, rfl, by decide +kernel, by decide +kernel⟩
theorem ok_all_high (T : Tx w K mg cTooLong cUnlike) : Cal P w K mg base (CX1 P w) 4 "all_high" ["waves"] (spM K (cl cTooLong cUnlike) F_all_high) := by
  obtain ⟨f, fd, F, hm, hb⟩ := T.f_all_high
  have SC := sc_all_high
  have Ccommon_length := ok_common_length (P := P) (w := w) (base := base) T
  refine ⟨f, fd, ?_, hm, F.kp, hb⟩
  refine fn_ok (b := B_all_high) F SC rfl rfl fun cdv A outer s H E hr R => ?_
  exact (bv_one (sv_ret (ev_comp (N := ["tick", "waves"]) (k := 1) (fr := [0]) (gk_nm (by decide)) rfl ⟨rfl, rfl, rfl, rfl, rfl, rfl⟩ (iv_range1 (by rfl) T.range (av_cons rfl (ev_cal Ccommon_length (hr.mono (by decide)) R.pass (av_cons rfl (ev_var (pv 0)) av_nil)) av_nil)) (fun _ _ _ _ => (gv_name (pg_name (i := 0) (show List.Nodup (α := Str) ["tick", "waves"] from by decide +kernel) rfl (Or.inr rfl) (Or.inl rfl)))) (fun _ _ _ _ => (tv_one (tv_val (ev_callB (cd_all rfl) (by rfl) T.all boot_all (av_cons rfl (ev_comp (N := ["wave", "tick"]) (k := 1) (fr := [0]) (gk_nm (by decide)) rfl ⟨rfl, rfl, rfl, rfl, rfl, rfl⟩ (iv_of (ev_var (pv 1))) (fun _ _ _ _ => (gv_name (pg_name (i := 0) (show List.Nodup (α := Str) ["wave", "tick"] from by decide +kernel) rfl (Or.inl rfl) (Or.inr rfl)))) (fun _ _ _ _ => tv_none) (fun _ _ _ _ => (ev_cmp (od_eq (hu50 hr)) (ev_ix (ev_var (pv 0)) (ev_var (pv 1)) (fun _ _ => rfl)) (ev_S (l := [49])) (nomark _)))) av_nil))))) (fun _ _ _ _ => (ev_var (pv 0))))))
theorem sc_window_counts : FnScope ["wave", "many", "parts"] ["wave", "many"] (defScope s_window_counts) := ⟨rfl, rfl, rfl, by decide +kernel, rfl, by decide +kernel, by decide +kernel⟩
theorem ok_window_counts (T : Tx w K mg cTooLong cUnlike) : Cal P w K mg base (CX1 P w) 2 "window_counts" ["wave", "many"] (spM K (cl cTooLong cUnlike) F_window_counts) := by
  obtain ⟨f, fd, F, hm, hb⟩ := T.f_window_counts
  have SC := sc_window_counts
  have Cwindows := ok_windows (P := P) (w := w) (base := base) T
  refine ⟨f, fd, ?_, hm, F.kp, hb⟩
  refine fn_ok (b := B_window_counts) F SC rfl rfl fun cdv A outer s H E hr R => ?_
  exact (bv_cons (sv_set (i := 2) SC.nd rfl (Or.inr rfl) (ev_cal Cwindows (hr.mono (by decide)) R.pass (av_cons rfl (ev_var (pv 0)) (av_cons rfl (ev_var (pv 1)) av_nil))))
      (bv_one (sv_ret (ev_comp (N := ["part", "parts"]) (k := 1) (fr := [2]) (gk_nm (by decide)) rfl ⟨rfl, rfl, rfl, rfl, rfl, rfl⟩ (iv_of (ev_sortset rfl (by rfl) T.sorted (by rfl) T.set (ev_var (pv 2)) rfl)) (fun _ _ _ _ => (gv_name (pg_name (i := 0) (show List.Nodup (α := Str) ["part", "parts"] from by decide +kernel) rfl (Or.inl rfl) (Or.inr rfl)))) (fun _ _ _ _ => tv_none) (fun _ _ _ _ => (ev_tup (av_cons rfl (ev_var (pv 0)) (av_cons rfl (ev_lcnt (ev_var (pv 1)) (av_cons rfl (ev_var (pv 0)) av_nil) rfl) av_nil))))))))
theorem sc_tally : FnScope ["wave"] ["wave"] (defScope s_tally) := ⟨rfl, rfl, rfl, by decide +kernel, rfl, by decide +kernel, by decide +kernel⟩
theorem ok_tally (T : Tx w K mg cTooLong cUnlike) : Cal P w K mg base (CX1 P w) 1 "tally" ["wave"] (spM K (cl cTooLong cUnlike) F_tally) := by
  obtain ⟨f, fd, F, hm, hb⟩ := T.f_tally
  have SC := sc_tally
  refine ⟨f, fd, ?_, hm, F.kp, hb⟩
  refine fn_ok (b := B_tally) F SC rfl rfl fun cdv A outer s H E hr R => ?_
  exact (bv_one (sv_ret (ev_tup (av_cons rfl (ev_count (ev_var (pv 0)) (av_cons rfl (ev_S (l := [48])) av_nil) rfl) (av_cons rfl (ev_count (ev_var (pv 0)) (av_cons rfl (ev_S (l := [49])) av_nil) rfl) (av_cons rfl (ev_count (ev_var (pv 0)) (av_cons rfl (ev_S (l := [120])) av_nil) rfl) av_nil))))))
theorem sc_law : FnScope ["_law_script", "_law_long", "_law_one", "_law_other", "_law_by", "_law_many", "_law_there", "_law_back", "_law_gates", "_law_rows", "_law_mine", "_law_yours", "_law_gate", "_law_told"] ["_law_script"] (defScope s_law) := ⟨rfl, rfl, rfl, by decide +kernel, rfl, by decide +kernel, by decide +kernel⟩
theorem ok_law (hG : ∀ ns : List Int, ns.length ≤ 63 → F_law [.lst (ns.map Dt.int)] = .ok (.bl true)) (T : Tx w K mg cTooLong cUnlike) {f : Addr} {fd : FuncData} (F : Fun K "law" "law" s_law f fd) : FnOk P w K mg base (CX1 P w) 5 f fd ["_law_script"] (spLaw K) := by
  have SC := sc_law
  have Cvalues_of := ok_values_of (P := P) (w := w) (base := base) T
  have CL_pick := ok__law_pick (P := P) (w := w) (base := base) T
  have CL_wave := ok__law_wave (P := P) (w := w) (base := base) T
  have Crolled := ok_rolled (P := P) (w := w) (base := base) T
  have Cturned_about := ok_turned_about (P := P) (w := w) (base := base) T
  have Cboth := ok_both (P := P) (w := w) (base := base) T
  have Ceither := ok_either (P := P) (w := w) (base := base) T
  have Cunlike := ok_unlike (P := P) (w := w) (base := base) T
  have Cno := ok_no (P := P) (w := w) (base := base) T
  have Cwindows := ok_windows (P := P) (w := w) (base := base) T
  have Cdistance := ok_distance (P := P) (w := w) (base := base) T
  have Call_high := ok_all_high (P := P) (w := w) (base := base) T
  have Cwindow_counts := ok_window_counts (P := P) (w := w) (base := base) T
  have Ctally := ok_tally (P := P) (w := w) (base := base) T
  refine law_ok (cls := (cl cTooLong cUnlike)) (G := F_law) ?_ hG
  refine fn_ok (b := B_law) F SC rfl rfl fun cdv A outer s H E hr R => ?_
  exact (bv_cons (sv_set (i := 1) SC.nd rfl (Or.inr rfl) (ev_op od_add ev_int (ev_cal CL_pick (hr.mono (by decide)) R.pass (av_cons rfl (ev_var (pv 0)) (av_cons rfl ev_int (av_cons rfl ev_int av_nil))))))
      (bv_cons (sv_par (i := 2) (j := 3) rfl SC.nd rfl rfl (by decide) rfl rfl (av_cons rfl (ev_cal CL_wave (hr.mono (by decide)) R.pass (av_cons rfl (ev_var (pv 0)) (av_cons rfl ev_int (av_cons rfl (ev_var (pv 1)) (av_cons rfl (ev_S (l := [48, 49, 120])) av_nil))))) (av_cons rfl (ev_cal CL_wave (hr.mono (by decide)) R.pass (av_cons rfl (ev_var (pv 0)) (av_cons rfl ev_int (av_cons rfl (ev_var (pv 1)) (av_cons rfl (ev_S (l := [48, 49, 120])) av_nil))))) av_nil)) rfl)
      (bv_cons (sv_asg (ev_tup (av_cons rfl (ev_op od_sub (ev_cal CL_pick (hr.mono (by decide)) R.pass (av_cons rfl (ev_var (pv 0)) (av_cons rfl ev_int (av_cons rfl ev_int av_nil)))) ev_int) (av_cons rfl (ev_op od_add ev_int (ev_cal CL_pick (hr.mono (by decide)) R.pass (av_cons rfl (ev_var (pv 0)) (av_cons rfl ev_int (av_cons rfl (ev_var (pv 1)) av_nil))))) av_nil))) (gv_tup (n := 2) rfl (gvs_cons (gv_name (pg_name (i := 4) SC.nd rfl (Or.inr rfl))) (gvs_cons (gv_name (pg_name (i := 5) SC.nd rfl (Or.inl rfl))) gvs_nil))))
      (bv_cons (sv_set (i := 6) SC.nd rfl (Or.inl rfl) (ev_tup (av_cons rfl (ev_cal Crolled (hr.mono (by decide)) R.pass (av_cons rfl (ev_var (pv 2)) (av_cons rfl (ev_var (pv 4)) av_nil))) (av_cons rfl (ev_cal Crolled (hr.mono (by decide)) R.pass (av_cons rfl (ev_var (pv 3)) (av_cons rfl (ev_var (pv 4)) av_nil))) av_nil))))
      (bv_cons (sv_set (i := 7) SC.nd rfl (Or.inl rfl) (ev_tup (av_cons rfl (ev_cal Cturned_about (hr.mono (by decide)) R.pass (av_cons rfl (ev_var (pv 2)) av_nil)) (av_cons rfl (ev_cal Cturned_about (hr.mono (by decide)) R.pass (av_cons rfl (ev_var (pv 3)) av_nil)) av_nil))))
      (bv_cons (sv_set (i := 8) SC.nd rfl (Or.inr rfl) (ev_lst (av_cons rfl (ev_cal Cboth (hr.mono (by decide)) R.pass (av_cons rfl (ev_var (pv 2)) (av_cons rfl (ev_var (pv 3)) av_nil))) (av_cons rfl (ev_cal Ceither (hr.mono (by decide)) R.pass (av_cons rfl (ev_var (pv 2)) (av_cons rfl (ev_var (pv 3)) av_nil))) (av_cons rfl (ev_cal Cunlike (hr.mono (by decide)) R.pass (av_cons rfl (ev_var (pv 2)) (av_cons rfl (ev_var (pv 3)) av_nil))) (av_cons rfl (ev_cal Cno (hr.mono (by decide)) R.pass (av_cons rfl (ev_var (pv 2)) av_nil)) av_nil))))))
      (bv_cons (sv_if (tv_cmp (od_ne (hu50 hr)) (ev_lst (av_cons rfl (ev_cal Cboth (hr.mono (by decide)) R.pass (av_cons rfl (ev_ix (ev_var (pv 6)) ev_int (fun _ _ => rfl)) (av_cons rfl (ev_ix (ev_var (pv 6)) ev_int (fun _ _ => rfl)) av_nil))) (av_cons rfl (ev_cal Ceither (hr.mono (by decide)) R.pass (av_cons rfl (ev_ix (ev_var (pv 6)) ev_int (fun _ _ => rfl)) (av_cons rfl (ev_ix (ev_var (pv 6)) ev_int (fun _ _ => rfl)) av_nil))) av_nil))) (ev_comp (N := ["_law_gate", "_law_by"]) (k := 1) (fr := [4]) (gk_nm (by decide)) rfl ⟨rfl, rfl, rfl, rfl, rfl, rfl⟩ (iv_of (ev_slice (ev_var (pv 8)) ov_none (ov_some ev_int))) (fun _ _ _ _ => (gv_name (pg_name (i := 0) (show List.Nodup (α := Str) ["_law_gate", "_law_by"] from by decide +kernel) rfl (Or.inl rfl) (Or.inr rfl)))) (fun _ _ _ _ => tv_none) (fun _ _ _ _ => (ev_cal Crolled (hr.mono (by decide)) pass_no (av_cons rfl (ev_var (pv 0)) (av_cons rfl (ev_var (pv 1)) av_nil))))) (nomark _)) (bv_one (sv_ret ev_bl)) bv_nil)
      (bv_cons (sv_if (tv_cmp (od_ne (hu50 hr)) (ev_lst (av_cons rfl (ev_cal Cunlike (hr.mono (by decide)) R.pass (av_cons rfl (ev_ix (ev_var (pv 6)) ev_int (fun _ _ => rfl)) (av_cons rfl (ev_ix (ev_var (pv 6)) ev_int (fun _ _ => rfl)) av_nil))) (av_cons rfl (ev_cal Cno (hr.mono (by decide)) R.pass (av_cons rfl (ev_ix (ev_var (pv 6)) ev_int (fun _ _ => rfl)) av_nil)) av_nil))) (ev_comp (N := ["_law_gate", "_law_by"]) (k := 1) (fr := [4]) (gk_nm (by decide)) rfl ⟨rfl, rfl, rfl, rfl, rfl, rfl⟩ (iv_of (ev_slice (ev_var (pv 8)) (ov_some ev_int) ov_none)) (fun _ _ _ _ => (gv_name (pg_name (i := 0) (show List.Nodup (α := Str) ["_law_gate", "_law_by"] from by decide +kernel) rfl (Or.inl rfl) (Or.inr rfl)))) (fun _ _ _ _ => tv_none) (fun _ _ _ _ => (ev_cal Crolled (hr.mono (by decide)) pass_no (av_cons rfl (ev_var (pv 0)) (av_cons rfl (ev_var (pv 1)) av_nil))))) (nomark _)) (bv_one (sv_ret ev_bl)) bv_nil)
      (bv_cons (sv_if (tv_cmp (od_ne (hu50 hr)) (ev_lst (av_cons rfl (ev_cal Cboth (hr.mono (by decide)) R.pass (av_cons rfl (ev_ix (ev_var (pv 7)) ev_int (fun _ _ => rfl)) (av_cons rfl (ev_ix (ev_var (pv 7)) ev_int (fun _ _ => rfl)) av_nil))) (av_cons rfl (ev_cal Cunlike (hr.mono (by decide)) R.pass (av_cons rfl (ev_ix (ev_var (pv 7)) ev_int (fun _ _ => rfl)) (av_cons rfl (ev_ix (ev_var (pv 7)) ev_int (fun _ _ => rfl)) av_nil))) av_nil))) (ev_lst (av_cons rfl (ev_cal Cturned_about (hr.mono (by decide)) R.pass (av_cons rfl (ev_ix (ev_var (pv 8)) ev_int (fun _ _ => rfl)) av_nil)) (av_cons rfl (ev_cal Cturned_about (hr.mono (by decide)) R.pass (av_cons rfl (ev_ix (ev_var (pv 8)) ev_int (fun _ _ => rfl)) av_nil)) av_nil))) (nomark _)) (bv_one (sv_ret ev_bl)) bv_nil)
      (bv_cons (sv_if (tv_cmp (od_ne (hu50 hr)) (ev_cal Cturned_about (hr.mono (by decide)) R.pass (av_cons rfl (ev_ix (ev_var (pv 6)) ev_int (fun _ _ => rfl)) av_nil)) (ev_cal Crolled (hr.mono (by decide)) R.pass (av_cons rfl (ev_ix (ev_var (pv 7)) ev_int (fun _ _ => rfl)) (av_cons rfl (ev_op od_sub ev_int (ev_var (pv 4))) av_nil))) (nomark _)) (bv_one (sv_ret ev_bl)) bv_nil)
      (bv_cons (sv_set (i := 9) SC.nd rfl (Or.inl rfl) (ev_tup (av_cons rfl (ev_cal Cwindows (hr.mono (by decide)) R.pass (av_cons rfl (ev_var (pv 2)) (av_cons rfl (ev_var (pv 5)) av_nil))) (av_cons rfl (ev_cal Cwindows (hr.mono (by decide)) R.pass (av_cons rfl (ev_var (pv 3)) (av_cons rfl (ev_var (pv 5)) av_nil))) av_nil))))
      (bv_cons (sv_for0 rfl (iv_zip3 (by rfl) T.zip (av_cons rfl (ev_ix (ev_var (pv 9)) ev_int (fun _ _ => rfl)) (av_cons rfl (ev_ix (ev_var (pv 9)) ev_int (fun _ _ => rfl)) (av_cons rfl (ev_cal Cwindows (hr.mono (by decide)) pass_no (av_cons rfl (ev_ix (ev_var (pv 8)) ev_int (fun _ _ => rfl)) (av_cons rfl (ev_var (pv 5)) av_nil))) av_nil)))) (gv_tup (n := 3) rfl (gvs_cons (gv_name (pg_name (i := 10) SC.nd rfl (Or.inl rfl))) (gvs_cons (gv_name (pg_name (i := 11) SC.nd rfl (Or.inl rfl))) (gvs_cons (gv_name (pg_name (i := 12) SC.nd rfl (Or.inl rfl))) gvs_nil)))) (bv_one (sv_if (PW.pt (wv_or (tv_cmp (od_ne (hu50 hr)) (ev_cal Cboth (hr.mono (by decide)) pass_no (av_cons rfl (ev_var (pv 10)) (av_cons rfl (ev_var (pv 11)) av_nil))) (ev_var (pv 12)) (nomark _)) (wv_or1 (tv_cmp (od_ne (hu50 hr)) (ev_comp (N := ["_law_few", "_law_more"]) (k := 2) (fr := []) (gk_tp (gks_cons (gk_nm (by decide)) (gks_cons (gk_nm (by decide)) gks_nil))) rfl ⟨rfl, rfl, rfl, rfl, rfl, rfl⟩ (iv_zip2T (by rfl) T.zip (av_cons rfl (ev_cal Ctally (hr.mono (by decide)) pass_no (av_cons rfl (ev_var (pv 10)) av_nil)) (av_cons rfl (ev_cal Ctally (hr.mono (by decide)) pass_no (av_cons rfl (ev_var (pv 2)) av_nil)) av_nil))) (fun _ _ _ _ => (gv_tup (n := 2) rfl (gvs_cons (gv_name (pg_name (i := 0) (show List.Nodup (α := Str) ["_law_few", "_law_more"] from by decide +kernel) rfl (Or.inl rfl) (Or.inr rfl))) (gvs_cons (gv_name (pg_name (i := 1) (show List.Nodup (α := Str) ["_law_few", "_law_more"] from by decide +kernel) rfl (Or.inl rfl) (Or.inr rfl))) gvs_nil)))) (fun _ _ _ _ => (tv_one (tv_cmp od_gt (ev_var (pv 0)) (ev_var (pv 1)) (nomark _)))) (fun _ _ _ _ => ev_int)) (ev_lst av_nil) (nomark _))))) (bv_one (sv_ret ev_bl)) bv_nil)))
      (bv_cons (sv_if (tv_cmp (od_ne (hu50 hr)) (ev_callB (cd_sum rfl) (by rfl) T.sum (show PySem.bootBuiltins "sum" = some (.builtin "sum") from by decide +kernel) (av_cons rfl (ev_comp (N := ["_law_mine", "_law_yours"]) (k := 2) (fr := []) (gk_tp (gks_cons (gk_nm (by decide)) (gks_cons (gk_nm (by decide)) gks_nil))) rfl ⟨rfl, rfl, rfl, rfl, rfl, rfl⟩ (iv_zip2 (by rfl) T.zip (av_cons rfl (ev_cal Cwindows (hr.mono (by decide)) R.pass (av_cons rfl (ev_var (pv 2)) (av_cons rfl ev_int av_nil))) (av_cons rfl (ev_cal Cwindows (hr.mono (by decide)) R.pass (av_cons rfl (ev_var (pv 3)) (av_cons rfl ev_int av_nil))) av_nil))) (fun _ _ _ _ => (gv_tup (n := 2) rfl (gvs_cons (gv_name (pg_name (i := 0) (show List.Nodup (α := Str) ["_law_mine", "_law_yours"] from by decide +kernel) rfl (Or.inl rfl) (Or.inr rfl))) (gvs_cons (gv_name (pg_name (i := 1) (show List.Nodup (α := Str) ["_law_mine", "_law_yours"] from by decide +kernel) rfl (Or.inl rfl) (Or.inr rfl))) gvs_nil)))) (fun _ _ _ _ => tv_none) (fun _ _ _ _ => (ev_cal Cdistance (hr.mono (by decide)) pass_no (av_cons rfl (ev_var (pv 0)) (av_cons rfl (ev_var (pv 1)) av_nil))))) av_nil)) (ev_cal Cdistance (hr.mono (by decide)) R.pass (av_cons rfl (ev_var (pv 2)) (av_cons rfl (ev_var (pv 3)) av_nil))) (nomark _)) (bv_one (sv_ret ev_bl)) bv_nil)
      (bv_cons (sv_if (tv_cmp (od_ne (hu50 hr)) (ev_sort rfl (by rfl) T.sorted (ev_cal Cwindows (hr.mono (by decide)) R.pass (av_cons rfl (ev_cal Cturned_about (hr.mono (by decide)) R.pass (av_cons rfl (ev_var (pv 2)) av_nil)) (av_cons rfl (ev_var (pv 5)) av_nil))) rfl) (ev_sort rfl (by rfl) T.sorted (ev_comp (N := ["_law_here"]) (k := 1) (fr := []) (gk_nm (by decide)) rfl ⟨rfl, rfl, rfl, rfl, rfl, rfl⟩ (iv_of (ev_cal Cwindows (hr.mono (by decide)) R.pass (av_cons rfl (ev_var (pv 2)) (av_cons rfl (ev_var (pv 5)) av_nil)))) (fun _ _ _ _ => (gv_name (pg_name (i := 0) (show List.Nodup (α := Str) ["_law_here"] from by decide +kernel) rfl (Or.inl rfl) (Or.inr rfl)))) (fun _ _ _ _ => tv_none) (fun _ _ _ _ => (ev_cal Cturned_about (hr.mono (by decide)) pass_no (av_cons rfl (ev_var (pv 0)) av_nil)))) rfl) (nomark _)) (bv_one (sv_ret ev_bl)) bv_nil)
      (bv_cons (sv_set (i := 13) SC.nd rfl (Or.inr rfl) (ev_cal Cvalues_of (hr.mono (by decide)) R.pass (av_cons rfl (ev_lst (av_cons rfl (ev_var (pv 2)) (av_cons rfl (ev_var (pv 3)) av_nil))) av_nil)))
      (bv_cons (sv_if (tv_cmp (od_ne (hu50 hr)) (ev_cal Cvalues_of (hr.mono (by decide)) R.pass (av_cons rfl (ev_lst (av_cons rfl (ev_ix (ev_var (pv 6)) ev_int (fun _ _ => rfl)) (av_cons rfl (ev_ix (ev_var (pv 6)) ev_int (fun _ _ => rfl)) av_nil))) av_nil)) (ev_comp (N := ["_law_tick", "_law_long", "_law_by", "_law_told"]) (k := 1) (fr := [1, 4, 13]) (gk_nm (by decide)) rfl ⟨rfl, rfl, rfl, rfl, rfl, rfl⟩ (iv_range1 (by rfl) T.range (av_cons rfl (ev_var (pv 1)) av_nil)) (fun _ _ _ _ => (gv_name (pg_name (i := 0) (show List.Nodup (α := Str) ["_law_tick", "_law_long", "_law_by", "_law_told"] from by decide +kernel) rfl (Or.inl rfl) (Or.inr rfl)))) (fun _ _ _ _ => tv_none) (fun _ _ _ _ => (ev_ix (ev_var (pv 3)) (ev_op od_mod (ev_op od_sub (ev_var (pv 0)) (ev_var (pv 2))) (ev_var (pv 1))) (fun _ _ => rfl)))) (nomark _)) (bv_one (sv_ret ev_bl)) bv_nil)
      (bv_cons (sv_if (tv_cmp (od_ne (hu50 hr)) (ev_cal Call_high (hr.mono (by decide)) R.pass (av_cons rfl (ev_lst (av_cons rfl (ev_var (pv 2)) (av_cons rfl (ev_var (pv 3)) av_nil))) av_nil)) (ev_comp (N := ["_law_tick", "_law_gates"]) (k := 1) (fr := [8]) (gk_nm (by decide)) rfl ⟨rfl, rfl, rfl, rfl, rfl, rfl⟩ (iv_range1 (by rfl) T.range (av_cons rfl (ev_var (pv 1)) av_nil)) (fun _ _ _ _ => (gv_name (pg_name (i := 0) (show List.Nodup (α := Str) ["_law_tick", "_law_gates"] from by decide +kernel) rfl (Or.inl rfl) (Or.inr rfl)))) (fun _ _ _ _ => (tv_one (tv_cmp (od_eq (hu50 hr)) (ev_ix (ev_ix (ev_var (pv 1)) ev_int (fun _ _ => rfl)) (ev_var (pv 0)) (fun _ _ => rfl)) (ev_S (l := [49])) (nomark _)))) (fun _ _ _ _ => (ev_var (pv 0)))) (nomark _)) (bv_one (sv_ret ev_bl)) bv_nil)
      (bv_one (sv_ret (ev_and (ev_cmp (od_eq (hu50 hr)) (ev_callB (cd_sum rfl) (by rfl) T.sum (show PySem.bootBuiltins "sum" = some (.builtin "sum") from by decide +kernel) (av_cons rfl (ev_comp (N := ["_law_row"]) (k := 1) (fr := []) (gk_nm (by decide)) rfl ⟨rfl, rfl, rfl, rfl, rfl, rfl⟩ (iv_of (ev_cal Cwindow_counts (hr.mono (by decide)) R.pass (av_cons rfl (ev_var (pv 2)) (av_cons rfl (ev_var (pv 5)) av_nil)))) (fun _ _ _ _ => (gv_name (pg_name (i := 0) (show List.Nodup (α := Str) ["_law_row"] from by decide +kernel) rfl (Or.inl rfl) (Or.inr rfl)))) (fun _ _ _ _ => tv_none) (fun _ _ _ _ => (ev_ix (ev_var (pv 0)) ev_int (fun _ _ => rfl)))) av_nil)) (ev_op od_add (ev_op od_sub (ev_var (pv 1)) (ev_var (pv 5))) ev_int) (nomark _)) (ev_one (ev_cmp od_le (ev_cal Cdistance (hr.mono (by decide)) R.pass (av_cons rfl (ev_var (pv 2)) (av_cons rfl (ev_cal Cno (hr.mono (by decide)) R.pass (av_cons rfl (ev_var (pv 2)) av_nil)) av_nil))) (ev_var (pv 1)) (nomark _)))))))))))))))))))))))
end
theorem all_mk (hG : ∀ ns : List Int, ns.length ≤ 63 → F_law [.lst (ns.map Dt.int)] = .ok (.bl true)) {l : PySem.W.OpenLaw} {w : World} {K : PySem.W.Frag} {h : Heap} {mg : Str → Option Value} {fa : Addr} (X : K.In h) (G : h.Ns mainGlobals mg) (hfa : mg "law" = some (.ref fa))
    {od0 an0 : Option Addr} {sl0 : Array (Option Value)} {oc0 kV0 dc0 pm0 cd0 ct0 : Value} {a0 : Addr}
    {od1 an1 : Option Addr} {sl1 : Array (Option Value)} {oc1 kV1 dc1 pm1 cd1 ct1 : Value} {a1 : Addr}
    {od2 an2 : Option Addr} {sl2 : Array (Option Value)} {oc2 kV2 dc2 pm2 cd2 ct2 : Value} {a2 : Addr}
    {od3 an3 : Option Addr} {sl3 : Array (Option Value)} {oc3 kV3 dc3 pm3 cd3 ct3 : Value} {a3 : Addr}
    {od4 an4 : Option Addr} {sl4 : Array (Option Value)} {oc4 kV4 dc4 pm4 cd4 ct4 : Value} {a4 : Addr}
    {od5 an5 : Option Addr} {sl5 : Array (Option Value)} {oc5 kV5 dc5 pm5 cd5 ct5 : Value} {a5 : Addr}
    {od6 an6 : Option Addr} {sl6 : Array (Option Value)} {oc6 kV6 dc6 pm6 cd6 ct6 : Value} {a6 : Addr}
    {od7 an7 : Option Addr} {sl7 : Array (Option Value)} {oc7 kV7 dc7 pm7 cd7 ct7 : Value} {a7 : Addr}
    {od8 an8 : Option Addr} {sl8 : Array (Option Value)} {oc8 kV8 dc8 pm8 cd8 ct8 : Value} {a8 : Addr}
    {od9 an9 : Option Addr} {sl9 : Array (Option Value)} {oc9 kV9 dc9 pm9 cd9 ct9 : Value} {a9 : Addr}
    {od10 an10 : Option Addr} {sl10 : Array (Option Value)} {oc10 kV10 dc10 pm10 cd10 ct10 : Value} {a10 : Addr}
    {od11 an11 : Option Addr} {sl11 : Array (Option Value)} {oc11 kV11 dc11 pm11 cd11 ct11 : Value} {a11 : Addr}
    {od12 an12 : Option Addr} {sl12 : Array (Option Value)} {oc12 kV12 dc12 pm12 cd12 ct12 : Value} {a12 : Addr}
    {od13 an13 : Option Addr} {sl13 : Array (Option Value)} {oc13 kV13 dc13 pm13 cd13 ct13 : Value} {a13 : Addr}
    {od14 an14 : Option Addr} {sl14 : Array (Option Value)} {oc14 kV14 dc14 pm14 cd14 ct14 : Value} {a14 : Addr}
    {od15 an15 : Option Addr} {sl15 : Array (Option Value)} {oc15 kV15 dc15 pm15 cd15 ct15 : Value} {a15 : Addr}
    {od16 an16 : Option Addr} {sl16 : Array (Option Value)} {oc16 kV16 dc16 pm16 cd16 ct16 : Value} {a16 : Addr}
    {od17 an17 : Option Addr} {sl17 : Array (Option Value)} {oc17 kV17 dc17 pm17 cd17 ct17 : Value} {a17 : Addr}
    {od18 an18 : Option Addr} {sl18 : Array (Option Value)} {oc18 kV18 dc18 pm18 cd18 ct18 : Value} {a18 : Addr}
    {od19 an19 : Option Addr} {sl19 : Array (Option Value)} {oc19 kV19 dc19 pm19 cd19 ct19 : Value} {a19 : Addr}
    {od20 an20 : Option Addr} {sl20 : Array (Option Value)} {oc20 kV20 dc20 pm20 cd20 ct20 : Value} {a20 : Addr}
    {od21 an21 : Option Addr} {sl21 : Array (Option Value)} {oc21 kV21 dc21 pm21 cd21 ct21 : Value} {a21 : Addr}
    {od22 an22 : Option Addr} {sl22 : Array (Option Value)} {oc22 kV22 dc22 pm22 cd22 ct22 : Value} {a22 : Addr}
    {od23 an23 : Option Addr} {sl23 : Array (Option Value)} {oc23 kV23 dc23 pm23 cd23 ct23 : Value} {a23 : Addr}
    {cTooLong : Addr}
    {cUnlike : Addr}
    {a_OPPOSITES : Addr} {ep_OPPOSITES : Nat} {u0_OPPOSITES v0_OPPOSITES u1_OPPOSITES v1_OPPOSITES u2_OPPOSITES v2_OPPOSITES : Tok}
    (a0_ : PySem.W.nsIn K mainGlobals "value_at" = some (some (.ref a0))) (l0 : K.lookup a0 = some ⟨oc0, od0, .func (PySem.W.fnOf "value_at" "value_at" (defArgs s_value_at) (defBody s_value_at) (defScope s_value_at) .none kV0 dc0 pm0 an0 cd0 ct0), sl0⟩) (c0 : PySem.W.codeIn K cd0 "value_at" = true) (k0 : PySem.W.keepIn K (.ref a0) = true)
    (a1_ : PySem.W.nsIn K mainGlobals "of_one_length" = some (some (.ref a1))) (l1 : K.lookup a1 = some ⟨oc1, od1, .func (PySem.W.fnOf "of_one_length" "of_one_length" (defArgs s_of_one_length) (defBody s_of_one_length) (defScope s_of_one_length) .none kV1 dc1 pm1 an1 cd1 ct1), sl1⟩) (c1 : PySem.W.codeIn K cd1 "of_one_length" = true) (k1 : PySem.W.keepIn K (.ref a1) = true)
    (a2_ : PySem.W.nsIn K mainGlobals "refuse_unlike" = some (some (.ref a2))) (l2 : K.lookup a2 = some ⟨oc2, od2, .func (PySem.W.fnOf "refuse_unlike" "refuse_unlike" (defArgs s_refuse_unlike) (defBody s_refuse_unlike) (defScope s_refuse_unlike) .none kV2 dc2 pm2 an2 cd2 ct2), sl2⟩) (c2 : PySem.W.codeIn K cd2 "refuse_unlike" = true) (k2 : PySem.W.keepIn K (.ref a2) = true)
    (a3_ : PySem.W.nsIn K mainGlobals "common_length" = some (some (.ref a3))) (l3 : K.lookup a3 = some ⟨oc3, od3, .func (PySem.W.fnOf "common_length" "common_length" (defArgs s_common_length) (defBody s_common_length) (defScope s_common_length) .none kV3 dc3 pm3 an3 cd3 ct3), sl3⟩) (c3 : PySem.W.codeIn K cd3 "common_length" = true) (k3 : PySem.W.keepIn K (.ref a3) = true)
    (a4_ : PySem.W.nsIn K mainGlobals "values_of" = some (some (.ref a4))) (l4 : K.lookup a4 = some ⟨oc4, od4, .func (PySem.W.fnOf "values_of" "values_of" (defArgs s_values_of) (defBody s_values_of) (defScope s_values_of) .none kV4 dc4 pm4 an4 cd4 ct4), sl4⟩) (c4 : PySem.W.codeIn K cd4 "values_of" = true) (k4 : PySem.W.keepIn K (.ref a4) = true)
    (a5_ : PySem.W.nsIn K mainGlobals "_law_cell" = some (some (.ref a5))) (l5 : K.lookup a5 = some ⟨oc5, od5, .func (PySem.W.fnOf "_law_cell" "_law_cell" (defArgs s_law_cell) (defBody s_law_cell) (defScope s_law_cell) .none kV5 dc5 pm5 an5 cd5 ct5), sl5⟩) (c5 : PySem.W.codeIn K cd5 "_law_cell" = true) (k5 : PySem.W.keepIn K (.ref a5) = true)
    (a6_ : PySem.W.nsIn K mainGlobals "_law_pick" = some (some (.ref a6))) (l6 : K.lookup a6 = some ⟨oc6, od6, .func (PySem.W.fnOf "_law_pick" "_law_pick" (defArgs s_law_pick) (defBody s_law_pick) (defScope s_law_pick) .none kV6 dc6 pm6 an6 cd6 ct6), sl6⟩) (c6 : PySem.W.codeIn K cd6 "_law_pick" = true) (k6 : PySem.W.keepIn K (.ref a6) = true)
    (a7_ : PySem.W.nsIn K mainGlobals "_law_wave" = some (some (.ref a7))) (l7 : K.lookup a7 = some ⟨oc7, od7, .func (PySem.W.fnOf "_law_wave" "_law_wave" (defArgs s_law_wave) (defBody s_law_wave) (defScope s_law_wave) .none kV7 dc7 pm7 an7 cd7 ct7), sl7⟩) (c7 : PySem.W.codeIn K cd7 "_law_wave" = true) (k7 : PySem.W.keepIn K (.ref a7) = true)
    (a8_ : PySem.W.nsIn K mainGlobals "first_ticks_behind" = some (some (.ref a8))) (l8 : K.lookup a8 = some ⟨oc8, od8, .func (PySem.W.fnOf "first_ticks_behind" "first_ticks_behind" (defArgs s_first_ticks_behind) (defBody s_first_ticks_behind) (defScope s_first_ticks_behind) .none kV8 dc8 pm8 an8 cd8 ct8), sl8⟩) (c8 : PySem.W.codeIn K cd8 "first_ticks_behind" = true) (k8 : PySem.W.keepIn K (.ref a8) = true)
    (a9_ : PySem.W.nsIn K mainGlobals "rolled" = some (some (.ref a9))) (l9 : K.lookup a9 = some ⟨oc9, od9, .func (PySem.W.fnOf "rolled" "rolled" (defArgs s_rolled) (defBody s_rolled) (defScope s_rolled) .none kV9 dc9 pm9 an9 cd9 ct9), sl9⟩) (c9 : PySem.W.codeIn K cd9 "rolled" = true) (k9 : PySem.W.keepIn K (.ref a9) = true)
    (a10_ : PySem.W.nsIn K mainGlobals "turned_about" = some (some (.ref a10))) (l10 : K.lookup a10 = some ⟨oc10, od10, .func (PySem.W.fnOf "turned_about" "turned_about" (defArgs s_turned_about) (defBody s_turned_about) (defScope s_turned_about) .none kV10 dc10 pm10 an10 cd10 ct10), sl10⟩) (c10 : PySem.W.codeIn K cd10 "turned_about" = true) (k10 : PySem.W.keepIn K (.ref a10) = true)
    (a11_ : PySem.W.nsIn K mainGlobals "both_at" = some (some (.ref a11))) (l11 : K.lookup a11 = some ⟨oc11, od11, .func (PySem.W.fnOf "both_at" "both_at" (defArgs s_both_at) (defBody s_both_at) (defScope s_both_at) .none kV11 dc11 pm11 an11 cd11 ct11), sl11⟩) (c11 : PySem.W.codeIn K cd11 "both_at" = true) (k11 : PySem.W.keepIn K (.ref a11) = true)
    (a12_ : PySem.W.nsIn K mainGlobals "both" = some (some (.ref a12))) (l12 : K.lookup a12 = some ⟨oc12, od12, .func (PySem.W.fnOf "both" "both" (defArgs s_both) (defBody s_both) (defScope s_both) .none kV12 dc12 pm12 an12 cd12 ct12), sl12⟩) (c12 : PySem.W.codeIn K cd12 "both" = true) (k12 : PySem.W.keepIn K (.ref a12) = true)
    (a13_ : PySem.W.nsIn K mainGlobals "either_at" = some (some (.ref a13))) (l13 : K.lookup a13 = some ⟨oc13, od13, .func (PySem.W.fnOf "either_at" "either_at" (defArgs s_either_at) (defBody s_either_at) (defScope s_either_at) .none kV13 dc13 pm13 an13 cd13 ct13), sl13⟩) (c13 : PySem.W.codeIn K cd13 "either_at" = true) (k13 : PySem.W.keepIn K (.ref a13) = true)
    (a14_ : PySem.W.nsIn K mainGlobals "either" = some (some (.ref a14))) (l14 : K.lookup a14 = some ⟨oc14, od14, .func (PySem.W.fnOf "either" "either" (defArgs s_either) (defBody s_either) (defScope s_either) .none kV14 dc14 pm14 an14 cd14 ct14), sl14⟩) (c14 : PySem.W.codeIn K cd14 "either" = true) (k14 : PySem.W.keepIn K (.ref a14) = true)
    (a15_ : PySem.W.nsIn K mainGlobals "unlike_at" = some (some (.ref a15))) (l15 : K.lookup a15 = some ⟨oc15, od15, .func (PySem.W.fnOf "unlike_at" "unlike_at" (defArgs s_unlike_at) (defBody s_unlike_at) (defScope s_unlike_at) .none kV15 dc15 pm15 an15 cd15 ct15), sl15⟩) (c15 : PySem.W.codeIn K cd15 "unlike_at" = true) (k15 : PySem.W.keepIn K (.ref a15) = true)
    (a16_ : PySem.W.nsIn K mainGlobals "unlike" = some (some (.ref a16))) (l16 : K.lookup a16 = some ⟨oc16, od16, .func (PySem.W.fnOf "unlike" "unlike" (defArgs s_unlike) (defBody s_unlike) (defScope s_unlike) .none kV16 dc16 pm16 an16 cd16 ct16), sl16⟩) (c16 : PySem.W.codeIn K cd16 "unlike" = true) (k16 : PySem.W.keepIn K (.ref a16) = true)
    (a17_ : PySem.W.nsIn K mainGlobals "no" = some (some (.ref a17))) (l17 : K.lookup a17 = some ⟨oc17, od17, .func (PySem.W.fnOf "no" "no" (defArgs s_no) (defBody s_no) (defScope s_no) .none kV17 dc17 pm17 an17 cd17 ct17), sl17⟩) (c17 : PySem.W.codeIn K cd17 "no" = true) (k17 : PySem.W.keepIn K (.ref a17) = true)
    (a18_ : PySem.W.nsIn K mainGlobals "windows" = some (some (.ref a18))) (l18 : K.lookup a18 = some ⟨oc18, od18, .func (PySem.W.fnOf "windows" "windows" (defArgs s_windows) (defBody s_windows) (defScope s_windows) .none kV18 dc18 pm18 an18 cd18 ct18), sl18⟩) (c18 : PySem.W.codeIn K cd18 "windows" = true) (k18 : PySem.W.keepIn K (.ref a18) = true)
    (a19_ : PySem.W.nsIn K mainGlobals "distance" = some (some (.ref a19))) (l19 : K.lookup a19 = some ⟨oc19, od19, .func (PySem.W.fnOf "distance" "distance" (defArgs s_distance) (defBody s_distance) (defScope s_distance) .none kV19 dc19 pm19 an19 cd19 ct19), sl19⟩) (c19 : PySem.W.codeIn K cd19 "distance" = true) (k19 : PySem.W.keepIn K (.ref a19) = true)
    (a20_ : PySem.W.nsIn K mainGlobals "all_high" = some (some (.ref a20))) (l20 : K.lookup a20 = some ⟨oc20, od20, .func (PySem.W.fnOf "all_high" "all_high" (defArgs s_all_high) (defBody s_all_high) (defScope s_all_high) .none kV20 dc20 pm20 an20 cd20 ct20), sl20⟩) (c20 : PySem.W.codeIn K cd20 "all_high" = true) (k20 : PySem.W.keepIn K (.ref a20) = true)
    (a21_ : PySem.W.nsIn K mainGlobals "window_counts" = some (some (.ref a21))) (l21 : K.lookup a21 = some ⟨oc21, od21, .func (PySem.W.fnOf "window_counts" "window_counts" (defArgs s_window_counts) (defBody s_window_counts) (defScope s_window_counts) .none kV21 dc21 pm21 an21 cd21 ct21), sl21⟩) (c21 : PySem.W.codeIn K cd21 "window_counts" = true) (k21 : PySem.W.keepIn K (.ref a21) = true)
    (a22_ : PySem.W.nsIn K mainGlobals "tally" = some (some (.ref a22))) (l22 : K.lookup a22 = some ⟨oc22, od22, .func (PySem.W.fnOf "tally" "tally" (defArgs s_tally) (defBody s_tally) (defScope s_tally) .none kV22 dc22 pm22 an22 cd22 ct22), sl22⟩) (c22 : PySem.W.codeIn K cd22 "tally" = true) (k22 : PySem.W.keepIn K (.ref a22) = true)
    (a23_ : PySem.W.nsIn K mainGlobals "law" = some (some (.ref a23))) (l23 : K.lookup a23 = some ⟨oc23, od23, .func (PySem.W.fnOf "law" "law" (defArgs s_law) (defBody s_law) (defScope s_law) .none kV23 dc23 pm23 an23 cd23 ct23), sl23⟩) (c23 : PySem.W.codeIn K cd23 "law" = true) (k23 : PySem.W.keepIn K (.ref a23) = true)
    (z_len : PySem.W.nsIn K mainGlobals "len" = some none)
    (z_range : PySem.W.nsIn K mainGlobals "range" = some none)
    (z_max : PySem.W.nsIn K mainGlobals "max" = some none)
    (z_all : PySem.W.nsIn K mainGlobals "all" = some none)
    (z_int : PySem.W.nsIn K mainGlobals "int" = some none)
    (z_zip : PySem.W.nsIn K mainGlobals "zip" = some none)
    (z_enumerate : PySem.W.nsIn K mainGlobals "enumerate" = some none)
    (z_reversed : PySem.W.nsIn K mainGlobals "reversed" = some none)
    (z_set : PySem.W.nsIn K mainGlobals "set" = some none)
    (z_sorted : PySem.W.nsIn K mainGlobals "sorted" = some none)
    (z_sum : PySem.W.nsIn K mainGlobals "sum" = some none)
    (g_TooLong : PySem.W.nsIn K mainGlobals "TooLong" = some (some (.ref cTooLong)))
    (g_Unlike : PySem.W.nsIn K mainGlobals "Unlike" = some (some (.ref cUnlike)))
    (g_OPPOSITES : PySem.W.nsIn K mainGlobals "OPPOSITES" = some (some (.ref a_OPPOSITES)))
    (d_OPPOSITES : K.lookup a_OPPOSITES = some ⟨.type "dict", none, .dict #[⟨PyData.keyHash w.params ⟨#[48]⟩, .str ⟨#[48]⟩ u0_OPPOSITES, .str ⟨#[49]⟩ v0_OPPOSITES⟩, ⟨PyData.keyHash w.params ⟨#[49]⟩, .str ⟨#[49]⟩ u1_OPPOSITES, .str ⟨#[48]⟩ v1_OPPOSITES⟩, ⟨PyData.keyHash w.params ⟨#[120]⟩, .str ⟨#[120]⟩ u2_OPPOSITES, .str ⟨#[120]⟩ v2_OPPOSITES⟩] ep_OPPOSITES, #[]⟩)
    (x_TooLong : excIn K cTooLong veMro "ValueError.__new__" = true)
    (x_Unlike : excIn K cUnlike veMro "ValueError.__new__" = true) :
    ∃ fd : FuncData, (∀ (s : Shared) (v : Value), BindsTo s fd ⟨[v], []⟩ [("_law_script", v)]) ∧ ∀ base : Heap, K.In base → base.Ns mainGlobals mg → FnOk l.prog w K mg base (CX1 l.prog w) 5 fa fd ["_law_script"] (spLaw K) := by
  have T : Tx w K mg cTooLong cUnlike := {
    len := PySem.W.mg_none_of X G z_len
    range := PySem.W.mg_none_of X G z_range
    max := PySem.W.mg_none_of X G z_max
    all := PySem.W.mg_none_of X G z_all
    int := PySem.W.mg_none_of X G z_int
    zip := PySem.W.mg_none_of X G z_zip
    enumerate := PySem.W.mg_none_of X G z_enumerate
    reversed := PySem.W.mg_none_of X G z_reversed
    set := PySem.W.mg_none_of X G z_set
    sorted := PySem.W.mg_none_of X G z_sorted
    sum := PySem.W.mg_none_of X G z_sum
    TooLong := PySem.W.mg_of X G g_TooLong
    Unlike := PySem.W.mg_of X G g_Unlike
    D_OPPOSITES := ⟨a_OPPOSITES, PySem.W.mg_of X G g_OPPOSITES, [([48], u0_OPPOSITES, [49], v0_OPPOSITES), ([49], u1_OPPOSITES, [48], v1_OPPOSITES), ([120], u2_OPPOSITES, [120], v2_OPPOSITES)], ep_OPPOSITES, d_OPPOSITES, rfl⟩
    f_value_at := ⟨a0, _, fun_mk (st := s_value_at) l0 c0 k0, PySem.W.mg_of X G a0_, (fun_mk (st := s_value_at) l0 c0 k0).binds (ps := ["waves", "tick"]) fun _ _ _ _ _ _ us hl => match us, hl with | [_, _], _ => rfl⟩
    f_of_one_length := ⟨a1, _, fun_mk (st := s_of_one_length) l1 c1 k1, PySem.W.mg_of X G a1_, (fun_mk (st := s_of_one_length) l1 c1 k1).binds (ps := ["waves"]) fun _ _ _ _ _ _ us hl => match us, hl with | [_], _ => rfl⟩
    f_refuse_unlike := ⟨a2, _, fun_mk (st := s_refuse_unlike) l2 c2 k2, PySem.W.mg_of X G a2_, (fun_mk (st := s_refuse_unlike) l2 c2 k2).binds (ps := ["waves"]) fun _ _ _ _ _ _ us hl => match us, hl with | [_], _ => rfl⟩
    f_common_length := ⟨a3, _, fun_mk (st := s_common_length) l3 c3 k3, PySem.W.mg_of X G a3_, (fun_mk (st := s_common_length) l3 c3 k3).binds (ps := ["waves"]) fun _ _ _ _ _ _ us hl => match us, hl with | [_], _ => rfl⟩
    f_values_of := ⟨a4, _, fun_mk (st := s_values_of) l4 c4 k4, PySem.W.mg_of X G a4_, (fun_mk (st := s_values_of) l4 c4 k4).binds (ps := ["waves"]) fun _ _ _ _ _ _ us hl => match us, hl with | [_], _ => rfl⟩
    f__law_cell := ⟨a5, _, fun_mk (st := s_law_cell) l5 c5 k5, PySem.W.mg_of X G a5_, (fun_mk (st := s_law_cell) l5 c5 k5).binds (ps := ["_law_script", "_law_k"]) fun _ _ _ _ _ _ us hl => match us, hl with | [_, _], _ => rfl⟩
    f__law_pick := ⟨a6, _, fun_mk (st := s_law_pick) l6 c6 k6, PySem.W.mg_of X G a6_, (fun_mk (st := s_law_pick) l6 c6 k6).binds (ps := ["_law_script", "_law_k", "_law_many"]) fun _ _ _ _ _ _ us hl => match us, hl with | [_, _, _], _ => rfl⟩
    f__law_wave := ⟨a7, _, fun_mk (st := s_law_wave) l7 c7 k7, PySem.W.mg_of X G a7_, (fun_mk (st := s_law_wave) l7 c7 k7).binds (ps := ["_law_script", "_law_at", "_law_many", "_law_signs"]) fun _ _ _ _ _ _ us hl => match us, hl with | [_, _, _, _], _ => rfl⟩
    f_first_ticks_behind := ⟨a8, _, fun_mk (st := s_first_ticks_behind) l8 c8 k8, PySem.W.mg_of X G a8_, (fun_mk (st := s_first_ticks_behind) l8 c8 k8).binds (ps := ["wave", "many"]) fun _ _ _ _ _ _ us hl => match us, hl with | [_, _], _ => rfl⟩
    f_rolled := ⟨a9, _, fun_mk (st := s_rolled) l9 c9 k9, PySem.W.mg_of X G a9_, (fun_mk (st := s_rolled) l9 c9 k9).binds (ps := ["wave", "by"]) fun _ _ _ _ _ _ us hl => match us, hl with | [_, _], _ => rfl⟩
    f_turned_about := ⟨a10, _, fun_mk (st := s_turned_about) l10 c10 k10, PySem.W.mg_of X G a10_, (fun_mk (st := s_turned_about) l10 c10 k10).binds (ps := ["wave"]) fun _ _ _ _ _ _ us hl => match us, hl with | [_], _ => rfl⟩
    f_both_at := ⟨a11, _, fun_mk (st := s_both_at) l11 c11 k11, PySem.W.mg_of X G a11_, (fun_mk (st := s_both_at) l11 c11 k11).binds (ps := ["first", "second"]) fun _ _ _ _ _ _ us hl => match us, hl with | [_, _], _ => rfl⟩
    f_both := ⟨a12, _, fun_mk (st := s_both) l12 c12 k12, PySem.W.mg_of X G a12_, (fun_mk (st := s_both) l12 c12 k12).binds (ps := ["one", "other"]) fun _ _ _ _ _ _ us hl => match us, hl with | [_, _], _ => rfl⟩
    f_either_at := ⟨a13, _, fun_mk (st := s_either_at) l13 c13 k13, PySem.W.mg_of X G a13_, (fun_mk (st := s_either_at) l13 c13 k13).binds (ps := ["first", "second"]) fun _ _ _ _ _ _ us hl => match us, hl with | [_, _], _ => rfl⟩
    f_either := ⟨a14, _, fun_mk (st := s_either) l14 c14 k14, PySem.W.mg_of X G a14_, (fun_mk (st := s_either) l14 c14 k14).binds (ps := ["one", "other"]) fun _ _ _ _ _ _ us hl => match us, hl with | [_, _], _ => rfl⟩
    f_unlike_at := ⟨a15, _, fun_mk (st := s_unlike_at) l15 c15 k15, PySem.W.mg_of X G a15_, (fun_mk (st := s_unlike_at) l15 c15 k15).binds (ps := ["first", "second"]) fun _ _ _ _ _ _ us hl => match us, hl with | [_, _], _ => rfl⟩
    f_unlike := ⟨a16, _, fun_mk (st := s_unlike) l16 c16 k16, PySem.W.mg_of X G a16_, (fun_mk (st := s_unlike) l16 c16 k16).binds (ps := ["one", "other"]) fun _ _ _ _ _ _ us hl => match us, hl with | [_, _], _ => rfl⟩
    f_no := ⟨a17, _, fun_mk (st := s_no) l17 c17 k17, PySem.W.mg_of X G a17_, (fun_mk (st := s_no) l17 c17 k17).binds (ps := ["wave"]) fun _ _ _ _ _ _ us hl => match us, hl with | [_], _ => rfl⟩
    f_windows := ⟨a18, _, fun_mk (st := s_windows) l18 c18 k18, PySem.W.mg_of X G a18_, (fun_mk (st := s_windows) l18 c18 k18).binds (ps := ["wave", "many"]) fun _ _ _ _ _ _ us hl => match us, hl with | [_, _], _ => rfl⟩
    f_distance := ⟨a19, _, fun_mk (st := s_distance) l19 c19 k19, PySem.W.mg_of X G a19_, (fun_mk (st := s_distance) l19 c19 k19).binds (ps := ["one", "other"]) fun _ _ _ _ _ _ us hl => match us, hl with | [_, _], _ => rfl⟩
    f_all_high := ⟨a20, _, fun_mk (st := s_all_high) l20 c20 k20, PySem.W.mg_of X G a20_, (fun_mk (st := s_all_high) l20 c20 k20).binds (ps := ["waves"]) fun _ _ _ _ _ _ us hl => match us, hl with | [_], _ => rfl⟩
    f_window_counts := ⟨a21, _, fun_mk (st := s_window_counts) l21 c21 k21, PySem.W.mg_of X G a21_, (fun_mk (st := s_window_counts) l21 c21 k21).binds (ps := ["wave", "many"]) fun _ _ _ _ _ _ us hl => match us, hl with | [_, _], _ => rfl⟩
    f_tally := ⟨a22, _, fun_mk (st := s_tally) l22 c22 k22, PySem.W.mg_of X G a22_, (fun_mk (st := s_tally) l22 c22 k22).binds (ps := ["wave"]) fun _ _ _ _ _ _ us hl => match us, hl with | [_], _ => rfl⟩
    f_law := ⟨a23, _, fun_mk (st := s_law) l23 c23 k23, PySem.W.mg_of X G a23_, (fun_mk (st := s_law) l23 c23 k23).binds (ps := ["_law_script"]) fun _ _ _ _ _ _ us hl => match us, hl with | [_], _ => rfl⟩
    x_TooLong := x_TooLong
    x_Unlike := x_Unlike
  }
  refine ⟨PySem.W.fnOf "law" "law" (defArgs s_law) (defBody s_law) (defScope s_law) .none kV23 dc23 pm23 an23 cd23 ct23, fun s v => .of_eq rfl, fun base _ _ => ?_⟩
  have e := hfa.symm.trans (PySem.W.mg_of X G a23_)
  cases e
  exact ok_law (P := l.prog) (w := w) (base := base) hG T (fun_mk (st := s_law) l23 c23 k23)
theorem walk {l : PySem.W.OpenLaw} {q : Program} {loose : List Str} {XP : (Str → Option Value) → Heap → Prop} {YP : World → Heap → Prop} {d : DefRec} {K : Params → PySem.W.Frag} (hn : l.most = some 63) (hdf : d.params.defaults = [])
    (hY : ∀ (w : World) (h : Heap), YP w h → (K w.params).In h)
    (F : ∀ (w : World) (mg : Str → Option Value) (fa : Addr) (h : Heap), (K w.params).In h → h.Ns mainGlobals mg → mg d.name = some (.ref fa) →
      ∃ fd : FuncData, (∀ (s : Shared) (u : Value), BindsTo s fd ⟨[u], []⟩ [("_law_script", u)]) ∧ ∀ base : Heap, (K w.params).In base → base.Ns mainGlobals mg → FnOk l.prog w (K w.params) mg base (CX1 l.prog w) 5 fa fd ["_law_script"] (spLaw (K w.params))) :
    PySem.W.WalkO q loose XP YP l.row.toRowW d [] (fun f vs => PySem.call f vs) :=
  L2.walk_of (n := 63) (k := 5) (x := "_law_script") (CX := fun w => CX1 l.prog w) (sp := fun w => spLaw (K w.params)) hn (by decide) hdf ⟨rfl, by decide, by decide, rfl⟩ hY F (fun _ _ a ns hl _ hS => ⟨a, ns, rfl, ⟨hS, hl⟩, fun _ => rfl⟩) fun _ _ _ _ _ z => by
    obtain ⟨ea, C, H', B, a0, _, _, _, _, _, _, _, _, _, hE⟩ := z
    exact hE
end K98

set_option Elab.async false
set_option linter.all false
open PySem PySem.W PyProof.Rows
set_option maxRecDepth 100000 in
set_option maxHeartbeats 0 in
theorem PySem.Challenge.cw_tickrows_k98_whole_windows_and_gates_holds : PySem.Challenge.rw_tickrows_k98_whole_windows_and_gates.Holds := by
  w_on; o_law; k_head; (case hw => w_witness2)
  k_fill
  refine K98.walk (l := PySem.Challenge.rw_tickrows_k98_whole_windows_and_gates) rfl rfl (fun w h Y => PySem.W.kIn_of Y) ?F
  case F =>
    intro w mg fa h KX G hmg
    refine' K98.all_mk K98.law_true KX G hmg ?a0_ ?l0 ?c0 ?k0 ?a1_ ?l1 ?c1 ?k1 ?a2_ ?l2 ?c2 ?k2 ?a3_ ?l3 ?c3 ?k3 ?a4_ ?l4 ?c4 ?k4 ?a5_ ?l5 ?c5 ?k5 ?a6_ ?l6 ?c6 ?k6 ?a7_ ?l7 ?c7 ?k7 ?a8_ ?l8 ?c8 ?k8 ?a9_ ?l9 ?c9 ?k9 ?a10_ ?l10 ?c10 ?k10 ?a11_ ?l11 ?c11 ?k11 ?a12_ ?l12 ?c12 ?k12 ?a13_ ?l13 ?c13 ?k13 ?a14_ ?l14 ?c14 ?k14 ?a15_ ?l15 ?c15 ?k15 ?a16_ ?l16 ?c16 ?k16 ?a17_ ?l17 ?c17 ?k17 ?a18_ ?l18 ?c18 ?k18 ?a19_ ?l19 ?c19 ?k19 ?a20_ ?l20 ?c20 ?k20 ?a21_ ?l21 ?c21 ?k21 ?a22_ ?l22 ?c22 ?k22 ?a23_ ?l23 ?c23 ?k23 ?z_len ?z_range ?z_max ?z_all ?z_int ?z_zip ?z_enumerate ?z_reversed ?z_set ?z_sorted ?z_sum ?g_TooLong ?g_Unlike ?g_OPPOSITES ?d_OPPOSITES ?x_TooLong ?x_Unlike
    (case a0_ => first | k_is | kit_is | kts_exm | k_exc)
    (case l0 => first | k_is | kit_is | kts_exm | k_exc)
    (case c0 => first | k_is | kit_is | kts_exm | k_exc)
    (case k0 => first | k_is | kit_is | kts_exm | k_exc)
    (case a1_ => first | k_is | kit_is | kts_exm | k_exc)
    (case l1 => first | k_is | kit_is | kts_exm | k_exc)
    (case c1 => first | k_is | kit_is | kts_exm | k_exc)
    (case k1 => first | k_is | kit_is | kts_exm | k_exc)
    (case a2_ => first | k_is | kit_is | kts_exm | k_exc)
    (case l2 => first | k_is | kit_is | kts_exm | k_exc)
    (case c2 => first | k_is | kit_is | kts_exm | k_exc)
    (case k2 => first | k_is | kit_is | kts_exm | k_exc)
    (case a3_ => first | k_is | kit_is | kts_exm | k_exc)
    (case l3 => first | k_is | kit_is | kts_exm | k_exc)
    (case c3 => first | k_is | kit_is | kts_exm | k_exc)
    (case k3 => first | k_is | kit_is | kts_exm | k_exc)
    (case a4_ => first | k_is | kit_is | kts_exm | k_exc)
    (case l4 => first | k_is | kit_is | kts_exm | k_exc)
    (case c4 => first | k_is | kit_is | kts_exm | k_exc)
    (case k4 => first | k_is | kit_is | kts_exm | k_exc)
    (case a5_ => first | k_is | kit_is | kts_exm | k_exc)
    (case l5 => first | k_is | kit_is | kts_exm | k_exc)
    (case c5 => first | k_is | kit_is | kts_exm | k_exc)
    (case k5 => first | k_is | kit_is | kts_exm | k_exc)
    (case a6_ => first | k_is | kit_is | kts_exm | k_exc)
    (case l6 => first | k_is | kit_is | kts_exm | k_exc)
    (case c6 => first | k_is | kit_is | kts_exm | k_exc)
    (case k6 => first | k_is | kit_is | kts_exm | k_exc)
    (case a7_ => first | k_is | kit_is | kts_exm | k_exc)
    (case l7 => first | k_is | kit_is | kts_exm | k_exc)
    (case c7 => first | k_is | kit_is | kts_exm | k_exc)
    (case k7 => first | k_is | kit_is | kts_exm | k_exc)
    (case a8_ => first | k_is | kit_is | kts_exm | k_exc)
    (case l8 => first | k_is | kit_is | kts_exm | k_exc)
    (case c8 => first | k_is | kit_is | kts_exm | k_exc)
    (case k8 => first | k_is | kit_is | kts_exm | k_exc)
    (case a9_ => first | k_is | kit_is | kts_exm | k_exc)
    (case l9 => first | k_is | kit_is | kts_exm | k_exc)
    (case c9 => first | k_is | kit_is | kts_exm | k_exc)
    (case k9 => first | k_is | kit_is | kts_exm | k_exc)
    (case a10_ => first | k_is | kit_is | kts_exm | k_exc)
    (case l10 => first | k_is | kit_is | kts_exm | k_exc)
    (case c10 => first | k_is | kit_is | kts_exm | k_exc)
    (case k10 => first | k_is | kit_is | kts_exm | k_exc)
    (case a11_ => first | k_is | kit_is | kts_exm | k_exc)
    (case l11 => first | k_is | kit_is | kts_exm | k_exc)
    (case c11 => first | k_is | kit_is | kts_exm | k_exc)
    (case k11 => first | k_is | kit_is | kts_exm | k_exc)
    (case a12_ => first | k_is | kit_is | kts_exm | k_exc)
    (case l12 => first | k_is | kit_is | kts_exm | k_exc)
    (case c12 => first | k_is | kit_is | kts_exm | k_exc)
    (case k12 => first | k_is | kit_is | kts_exm | k_exc)
    (case a13_ => first | k_is | kit_is | kts_exm | k_exc)
    (case l13 => first | k_is | kit_is | kts_exm | k_exc)
    (case c13 => first | k_is | kit_is | kts_exm | k_exc)
    (case k13 => first | k_is | kit_is | kts_exm | k_exc)
    (case a14_ => first | k_is | kit_is | kts_exm | k_exc)
    (case l14 => first | k_is | kit_is | kts_exm | k_exc)
    (case c14 => first | k_is | kit_is | kts_exm | k_exc)
    (case k14 => first | k_is | kit_is | kts_exm | k_exc)
    (case a15_ => first | k_is | kit_is | kts_exm | k_exc)
    (case l15 => first | k_is | kit_is | kts_exm | k_exc)
    (case c15 => first | k_is | kit_is | kts_exm | k_exc)
    (case k15 => first | k_is | kit_is | kts_exm | k_exc)
    (case a16_ => first | k_is | kit_is | kts_exm | k_exc)
    (case l16 => first | k_is | kit_is | kts_exm | k_exc)
    (case c16 => first | k_is | kit_is | kts_exm | k_exc)
    (case k16 => first | k_is | kit_is | kts_exm | k_exc)
    (case a17_ => first | k_is | kit_is | kts_exm | k_exc)
    (case l17 => first | k_is | kit_is | kts_exm | k_exc)
    (case c17 => first | k_is | kit_is | kts_exm | k_exc)
    (case k17 => first | k_is | kit_is | kts_exm | k_exc)
    (case a18_ => first | k_is | kit_is | kts_exm | k_exc)
    (case l18 => first | k_is | kit_is | kts_exm | k_exc)
    (case c18 => first | k_is | kit_is | kts_exm | k_exc)
    (case k18 => first | k_is | kit_is | kts_exm | k_exc)
    (case a19_ => first | k_is | kit_is | kts_exm | k_exc)
    (case l19 => first | k_is | kit_is | kts_exm | k_exc)
    (case c19 => first | k_is | kit_is | kts_exm | k_exc)
    (case k19 => first | k_is | kit_is | kts_exm | k_exc)
    (case a20_ => first | k_is | kit_is | kts_exm | k_exc)
    (case l20 => first | k_is | kit_is | kts_exm | k_exc)
    (case c20 => first | k_is | kit_is | kts_exm | k_exc)
    (case k20 => first | k_is | kit_is | kts_exm | k_exc)
    (case a21_ => first | k_is | kit_is | kts_exm | k_exc)
    (case l21 => first | k_is | kit_is | kts_exm | k_exc)
    (case c21 => first | k_is | kit_is | kts_exm | k_exc)
    (case k21 => first | k_is | kit_is | kts_exm | k_exc)
    (case a22_ => first | k_is | kit_is | kts_exm | k_exc)
    (case l22 => first | k_is | kit_is | kts_exm | k_exc)
    (case c22 => first | k_is | kit_is | kts_exm | k_exc)
    (case k22 => first | k_is | kit_is | kts_exm | k_exc)
    (case a23_ => first | k_is | kit_is | kts_exm | k_exc)
    (case l23 => first | k_is | kit_is | kts_exm | k_exc)
    (case c23 => first | k_is | kit_is | kts_exm | k_exc)
    (case k23 => first | k_is | kit_is | kts_exm | k_exc)
    (case z_len => first | k_is | kit_is | kts_exm | k_exc)
    (case z_range => first | k_is | kit_is | kts_exm | k_exc)
    (case z_max => first | k_is | kit_is | kts_exm | k_exc)
    (case z_all => first | k_is | kit_is | kts_exm | k_exc)
    (case z_int => first | k_is | kit_is | kts_exm | k_exc)
    (case z_zip => first | k_is | kit_is | kts_exm | k_exc)
    (case z_enumerate => first | k_is | kit_is | kts_exm | k_exc)
    (case z_reversed => first | k_is | kit_is | kts_exm | k_exc)
    (case z_set => first | k_is | kit_is | kts_exm | k_exc)
    (case z_sorted => first | k_is | kit_is | kts_exm | k_exc)
    (case z_sum => first | k_is | kit_is | kts_exm | k_exc)
    (case g_TooLong => first | k_is | kit_is | kts_exm | k_exc)
    (case g_Unlike => first | k_is | kit_is | kts_exm | k_exc)
    (case g_OPPOSITES => first | k_is | kit_is | kts_exm | k_exc)
    (case d_OPPOSITES => first | k_is | kit_is | kts_exm | k_exc)
    (case x_TooLong => first | k_is | kit_is | kts_exm | k_exc)
    (case x_Unlike => first | k_is | kit_is | kts_exm | k_exc)
