import PyProof.Rows.All
import Wide.All
import OpenK.AllK
import Wide.FinOn
import Lean
import PyProof.EqAt
import PyProof.EqKinds
import PyProof.TupleCall
import PyProof.ConsumeWalk
import PyProof.StrWalks
import PyProof.IsiPairs
import PyProof.IsiHeapPairs
import PyProof.NeKinds
import KE.KIsAll
import KE.KTryMore
import PyProof.FString
import PyProof.ExcBaseAll.ValueError
import PyProof.NsDelKeeps
import PyProof.ListStr
import PyProof.Rows.StrJoin2
import KE.RegKIsAll
import KE.RegKTryMore
import PyProof.StrOps2
import PyProof.ZipIter
import PyProof.Rows.FactsT2
import PyProof.WalksEnum
import PyProof.EnumMake
import PyProof.Draws
import PySem.Challenge.RW_tickrows_k03_whole_spans
set_option Elab.async false
set_option linter.all false
set_option maxRecDepth 100000
/-! Data without a heap, and what the program's pieces reckon with them. -/
namespace L2

inductive Dt where
  | non | bl (b : Bool) | int (i : Int) | str (l : List Nat) | tup (ds : List Dt) | lst (ds : List Dt)

mutual
/-- Python's own == -/
def eqD : Dt → Dt → Bool
  | .non, .non => true
  | .bl a, .bl b => a == b
  | .int a, .int b => a == b
  | .bl a, .int b => (if a then 1 else 0) == b
  | .int a, .bl b => a == (if b then 1 else 0)
  | .str a, .str b => a == b
  | .tup a, .tup b => eqDs a b
  | .lst a, .lst b => eqDs a b
  | _, _ => false
def eqDs : List Dt → List Dt → Bool
  | [], [] => true
  | a :: r, b :: t => eqD a b && eqDs r t
  | _, _ => false
end
mutual
def dep : Dt → Nat
  | .tup ds => deps ds + 1
  | .lst ds => deps ds + 1
  | _ => 0
def deps : List Dt → Nat
  | [] => 0
  | d :: ds => max (dep d) (deps ds)
end
mutual
/-- no text, list or tuple of more than 10000 -/
def sm : Dt → Prop
  | .str l => l.length ≤ 10000
  | .tup ds => ds.length ≤ 10000 ∧ sms ds
  | .lst ds => ds.length ≤ 10000 ∧ sms ds
  | _ => True
def sms : List Dt → Prop
  | [] => True
  | d :: ds => sm d ∧ sms ds
end
/-! ### what comes: a value, a refusal by its number, or nothing that is spoken of -/
inductive M (α : Type) where
  | ok (a : α) | ex (c : Nat) | bad
def M.bd {α β : Type} : M α → (α → M β) → M β
  | .ok a, k => k a
  | .ex c, _ => .ex c
  | .bad, _ => .bad
def M.calm {α : Type} : M α → M α
  | .ex _ => .bad
  | m => m
@[simp] theorem bd_ok {α β : Type} (a : α) (k : α → M β) : (M.ok a).bd k = k a := .trans rfl rfl
@[simp] theorem bd_ex {α β : Type} (c : Nat) (k : α → M β) : (M.ex c).bd k = .ex c := .trans rfl rfl
@[simp] theorem bd_bad {α β : Type} (k : α → M β) : (M.bad).bd k = .bad := .trans rfl rfl
@[simp] theorem calm_ok {α : Type} (a : α) : (M.ok a).calm = .ok a := .trans rfl rfl
@[simp] theorem calm_bad {α : Type} : (M.bad : M α).calm = .bad := .trans rfl rfl
theorem bd_if {α β : Type} (c : Prop) [Decidable c] (a b : M α) (k : α → M β) : (if c then a else b).bd k = if c then a.bd k else b.bd k := by split <;> rfl
/-- what a name holds: nothing that is known, a value, or a list that nothing else holds -/
inductive Bd where
  | no | val (d : Dt) | own (ds : List Dt)
abbrev Rho := List Bd
/-! ### operations -/
def p2 (op : Dt → Dt → M Dt) (f g : Rho → M Dt) : Rho → M Dt := fun ρ => (f ρ).bd fun x => (g ρ).bd fun y => op x y
def p1 (op : Dt → M Dt) (f : Rho → M Dt) : Rho → M Dt := fun ρ => (f ρ).bd op
def smallI (a : Int) : Prop := -(2 ^ 64) < a ∧ a < 2 ^ 64
instance (a : Int) : Decidable (smallI a) := by unfold smallI; infer_instance
/-! tests -/
/-! several values -/
/-! builtins -/
def bools : List Dt → Option (List Bool)
  | [] => some []
  | .bl b :: r => (bools r).map (b :: ·)
  | _ => none
/-! ### what is walked -/
/-! ### where a value is put -/
/-! ### comprehensions -/
/-! ### statements -/
inductive Fl where
  | nx (ρ : Rho) | rt (d : Dt) | bk (ρ : Rho) | ct (ρ : Rho)
def relB (i : Nat) (ρ : Rho) : Option Bd → Rho
  | some (.own ds) => ρ.set i (.val (.lst ds))
  | _ => ρ
def rel (i : Nat) (ρ : Rho) : Rho := relB i ρ ρ[i]?
end L2

set_option Elab.async false
set_option linter.all false
set_option maxRecDepth 100000
/-! THE HAND LAYER, for ints, bools, texts, own classes, LISTS and tuples (index, slices, in, append, pop ..), calls, loops. Paste it whole ahead of your own text; what your proof does not reach may be deleted. -/
namespace L2
open PySem PySem.Spec PyProof.Rows

/-- a key: an int or a str -/
abbrev Key := Sum Int Str
def keyIs : Key → Value → Bool
  | .inl k, v => Value.isInt k v
  | .inr x, v => Value.isStrOf x v
def keyH (w : World) : Key → Int
  | .inl k => hashInt k
  | .inr x => hashStr w x
theorem keyIs_shape : ∀ {k : Key} {v : Value}, keyIs k v = true → (∃ i t, k = Sum.inl i ∧ v = Value.int i t) ∨ (∃ x t, k = Sum.inr x ∧ v = Value.str x t)
  | .inl i, v, h => by
    obtain ⟨t, e⟩ := Value.isInt_shape (k := i) (v := v) h
    exact .inl ⟨i, t, rfl, e⟩
  | .inr x, v, h => by
    obtain ⟨t, e⟩ := Value.isStrOf_shape (x := x) (v := v) h
    exact .inr ⟨x, t, rfl, e⟩
theorem key_ll (a b : Int) : decide ((Sum.inl a : Key) = Sum.inl b) = (a == b) := by
  by_cases e : a = b
  · subst e; simp
  · have h : ¬ (Sum.inl a : Key) = Sum.inl b := fun q => e (Sum.inl.inj q)
    rw [decide_eq_false h]
    exact (beq_eq_false_iff_ne.mpr e).symm
theorem key_rr (a b : Str) : decide ((Sum.inr a : Key) = Sum.inr b) = decide (a = b) := by
  by_cases e : a = b
  · subst e; simp
  · have h : ¬ (Sum.inr a : Key) = Sum.inr b := fun q => e (Sum.inr.inj q)
    rw [decide_eq_false h, decide_eq_false e]
theorem key_lr (a : Int) (b : Str) : decide ((Sum.inl a : Key) = Sum.inr b) = false := decide_eq_false (fun q => nomatch q)
theorem key_rl (a : Str) (b : Int) : decide ((Sum.inr a : Key) = Sum.inl b) = false := decide_eq_false (fun q => nomatch q)

def mixKind (prog : Program) (w : World) : PySem.KeyKind prog w Key where
  is := keyIs
  hash := keyH w
  inj := fun v a b ha hb => by
    rcases keyIs_shape ha with ⟨i, t, rfl, rfl⟩ | ⟨x, t, rfl, rfl⟩
    · rcases keyIs_shape hb with ⟨j, u, rfl, e⟩ | ⟨y, u, rfl, e⟩
      · injection e with e1 _; rw [e1]
      · exact nomatch e
    · rcases keyIs_shape hb with ⟨j, u, rfl, e⟩ | ⟨y, u, rfl, e⟩
      · exact nomatch e
      · injection e with e1 _; rw [e1]
  byValue := fun k v h => by
    rcases keyIs_shape h with ⟨i, t, rfl, rfl⟩ | ⟨x, t, rfl, rfl⟩ <;> rfl
  pyHash := fun hv h => by
    rcases keyIs_shape hv with ⟨i, t, rfl, rfl⟩ | ⟨x, t, rfl, rfl⟩
    · exact wpAny_pyHash_int h
    · exact wpAny_pyHash_str h
  eqBool := fun hu hv h => by
    rcases keyIs_shape hu with ⟨i, t, rfl, rfl⟩ | ⟨x, t, rfl, rfl⟩
    · rcases keyIs_shape hv with ⟨j, u, rfl, rfl⟩ | ⟨y, u, rfl, rfl⟩
      · rw [key_ll] at h; exact wpAny_eqBool_int h
      · rw [key_lr] at h; exact SeqAt.EqAt.int_str i t y u _ _ _ _ h
    · rcases keyIs_shape hv with ⟨j, u, rfl, rfl⟩ | ⟨y, u, rfl, rfl⟩
      · rw [key_rl] at h; exact SeqAt.EqAt.str_int x t j u _ _ _ _ h
      · rw [key_rr] at h; exact wpAny_eqBool_str h
  «strs» := fun k x t v h => by
    rcases keyIs_shape h with ⟨i, u, rfl, e⟩ | ⟨y, u, rfl, e⟩
    · exact nomatch e
    · injection e with e1 _
      subst e1
      cases v <;> rfl

end L2

namespace L2
open PySem PySem.Spec PyProof.Rows

/-- a value, without the heap -/
inductive V where
  | non | bl (b : Bool) | int (i : Int) | str (x : Str) | byt (b : Array UInt8) | flt (b : UInt64) | ref (a : Addr) | ty (n : String)
  deriving DecidableEq

def RelV : V → Value → Prop
  | .non, u => u = Value.none
  | .bl b, u => u = Value.bool b
  | .int i, u => ∃ t, u = Value.int i t
  | .str x, u => ∃ t, u = Value.str x t
  | .byt b, u => ∃ t, u = Value.bytes b t
  | .flt b, u => ∃ t, u = Value.float b t
  | .ref a, u => u = Value.ref a
  | .ty n, u => u = Value.type n

abbrev Vals : List V → List Value → Prop := Paired RelV
theorem Vals.length {xs : List V} {us : List Value} (r : Vals xs us) : xs.length = us.length := Paired.length r
theorem Vals.get : ∀ {xs : List V} {us : List Value} {i : Nat} {x : V}, Vals xs us → xs[i]? = some x → ∃ u, us[i]? = some u ∧ RelV x u
  | _, _, _, _, .nil, e => by simp at e
  | _, _, 0, _, .cons r _, e => by simp at e; subst e; exact ⟨_, rfl, r⟩
  | _, _, i + 1, x, .cons _ t, e => by
    obtain ⟨u, h1, h2⟩ := Vals.get (i := i) (x := x) t (by simpa using e)
    exact ⟨u, by simpa using h1, h2⟩
theorem Vals.set {x : V} {u : Value} (r : RelV x u) : ∀ {xs : List V} {us : List Value} (i : Nat), Vals xs us → Vals (xs.set i x) (us.set i u)
  | _, _, _, .nil => .nil
  | _, _, 0, .cons _ t => .cons r t
  | _, _, i + 1, .cons q t => .cons q (Vals.set r i t)
theorem Vals.append : ∀ {xs ys : List V} {us ws : List Value}, Vals xs us → Vals ys ws → Vals (xs ++ ys) (us ++ ws)
  | _, _, _, _, .nil, s => s
  | _, _, _, _, .cons r t, s => .cons r (Vals.append t s)
theorem Vals.take : ∀ {xs : List V} {us : List Value} (n : Nat), Vals xs us → Vals (xs.take n) (us.take n)
  | _, _, 0, _ => .nil
  | _, _, _ + 1, .nil => .nil
  | _, _, n + 1, .cons r t => .cons r (Vals.take n t)
theorem Vals.drop : ∀ {xs : List V} {us : List Value} (n : Nat), Vals xs us → Vals (xs.drop n) (us.drop n)
  | _, _, 0, r => r
  | _, _, _ + 1, .nil => .nil
  | _, _, n + 1, .cons _ t => Vals.drop n t
def RelO : Option V → Option Value → Prop
  | some v, some u => RelV v u
  | none, none => True
  | _, _ => False
def KV {κ : Type} : List (κ × V) → List (κ × Value) → Prop := Paired fun (p : κ × V) (q : κ × Value) => p.1 = q.1 ∧ RelV p.2 q.2

/-- a key of a dict (00_mix): an int or a text -/
def kV : Key → V
  | .inl i => .int i
  | .inr x => .str x

/-- what stands at a tracked address -/
inductive HO where
  /-- a list -/
  | lst (xs : List V)
  /-- a tuple (never changes) -/
  | tup (xs : List V)
  /-- a dict whose keys are ints and texts; one whose keys are tuples of ints and texts (the empty one is both) -/
  | dK (kvs : List (Key × V)) | dT (kvs : List (List Key × V))
  /-- a set of ints: its members, its size -/
  | set (S : Int → Bool) (n : Nat)
  /-- an instance of the class at C, its dict at dx, its attributes -/
  | ins (C dx : Addr) (fs : List (Str × V))
  /-- the dict of the instance at x -/
  | own (x : Addr)
  /-- the dict of an exception -/
  | xd (fs : List (Str × V))
  /-- a bound method, f of x -/
  | met (f x : Addr)
  /-- a range object lo, lo + 1, .. below hi -/
  | rng (lo hi : Int)
  /-- a thing that is known to the object (the script; a dict while a loop walks it): read, never written while it is so -/
  | frz (o : Obj) (u : HO)
  /-- a code object's table -/
  | tbl (ps : Array Value)
  /-- any other thing, by what is true of its one object (a def of one's own: SetO a S n := HO.ext fun h => ..) -/
  | ext (φ : Heap → Prop)

abbrev Hp := Addr → Option HO
def upd (H : Hp) (a : Addr) (o : HO) : Hp := fun b => if b = a then some o else H b
theorem upd_same {H : Hp} {a : Addr} {o : HO} : upd H a o a = some o := by unfold upd; rw [if_pos rfl]
theorem upd_ne {H : Hp} {a b : Addr} {o : HO} (h : b ≠ a) : upd H a o b = H b := by unfold upd; rw [if_neg h]
theorem ne_of_none {H : Hp} {a b : Addr} {o : HO} (h : H a = some o) (h' : H b = none) : a ≠ b := by
  intro e; subst e; rw [h] at h'; cases h'

section
variable (P : Program) (w : World)
def ObjOk (H : Hp) (h : Heap) (a : Addr) : HO → Prop
  | .lst xs => xs.length ≤ sizeLine ∧ ∃ (its : List Value) (n : Nat), Vals xs its ∧ h.get? a = some { cls := .type "list", data := .seq its.toArray n }
  | .tup xs => xs.length ≤ sizeLine ∧ ∃ its : List Value, Vals xs its ∧ IsTup h a its.toArray
  | .dK kvs => kvs.length ≤ sizeLine ∧ (a == sysModules) = false ∧ ∃ vs, KV kvs vs ∧ h.DictOf (mixKind P w) a vs
  | .dT kvs => kvs.length ≤ sizeLine ∧ (a == sysModules) = false ∧ ∃ xs : List (List Key × Addr × Value),
      Paired (fun (p : List Key × V) (q : List Key × Addr × Value) => p.1 = q.1 ∧ H q.2.1 = some (.tup (p.1.map kV)) ∧ RelV p.2 q.2.2) kvs xs ∧
      ∃ o es ep, h.get? a = some o ∧ o.ExactDict ∧ o.data = .dict es ep ∧ es.toList = xs.map (entryOfKey (tupleKind (mixKind P w))) ∧ (xs.map (·.1)).Nodup
  | .set S n => h.SetOf (intKind P w) a S n
  | .ins C dx fs => H dx = some (.own a) ∧ fs.length ≤ 1000 ∧ dx ≠ a ∧ h.get? a = some (PySem.W.instObj C dx) ∧
      ∃ mA, h.Ns1 dx mA ∧ (∀ f, RelO (fs.lookup f) (mA f)) ∧ PySem.Within mA (fs.map (·.1))
  | .own _ => ∃ o, h.get? a = some o
  | .xd fs => ∃ mA, h.Ns1 a mA ∧ ∀ f, RelO (fs.lookup f) (mA f)
  | .rng lo hi => ∃ t u v, h.get? a = some { cls := .type "range", data := .fields #[.int lo t, .int hi u, .int 1 v] }
  | .frz o u => h.get? a = some o ∧ ObjOk H h a u
  | .tbl ps => h.get? a = some { cls := .none, data := .fields ps }
  | .met f x => h.get? a = some (PySem.W.methodObj (.ref f) (.ref x))
  | .ext φ => φ h ∧ (∃ o, h.get? a = some o) ∧ ∀ h1 h2 : Heap, φ h1 → (∀ o, h1.get? a = some o → h2.get? a = some o) → φ h2
/-- the abstract heap is held -/
def HOk (H : Hp) (h : Heap) : Prop := ∀ a o, H a = some o → ObjOk P w H h a o
end

section
variable {P : Program} {w : World} {H H' : Hp} {h h' : Heap} {a : Addr} {o : HO}
theorem ObjOk.lt (x : ObjOk P w H h a o) : a < h.objs.size := by
  cases o with
  | lst xs => obtain ⟨_, _, _, _, e⟩ := x; exact Heap.lt_size e
  | tup xs => obtain ⟨_, _, _, p⟩ := x; exact p.lt
  | dK kvs => obtain ⟨_, _, _, _, o, _, _, e, _⟩ := x; exact Heap.lt_size e
  | dT kvs => obtain ⟨_, _, _, _, o, _, _, e, _⟩ := x; exact Heap.lt_size e
  | set S n => obtain ⟨o, _, _, _, e, _⟩ := x; exact Heap.lt_size e
  | ins C dx fs => obtain ⟨_, _, _, e, _⟩ := x; exact Heap.lt_size e
  | own y => obtain ⟨_, e⟩ := x; exact Heap.lt_size e
  | xd fs => obtain ⟨_, ⟨_, _, _, e, _⟩, _⟩ := x; exact Heap.lt_size e
  | rng lo hi => obtain ⟨_, _, _, e⟩ := x; exact Heap.lt_size e
  | frz ob u => obtain ⟨e, _⟩ := x; exact Heap.lt_size e
  | tbl ps => exact Heap.lt_size (show h.get? a = some _ from x)
  | met f y => exact Heap.lt_size (show h.get? a = some _ from x)
  | ext φ => obtain ⟨_, ⟨_, e⟩, _⟩ := x; exact Heap.lt_size e
theorem Paired.mapP {α β : Type} {F G : α → β → Prop} : ∀ {l₁ : List α} {l₂ : List β}, Paired F l₁ l₂ → (∀ a b, F a b → G a b) → Paired G l₁ l₂
  | _, _, .nil, _ => .nil
  | _, _, .cons r t, f => .cons (f _ _ r) (Paired.mapP t f)
/-- what an object's description leans on: its own object, its own dict, the tuples -/
theorem ObjOk.stay (x : ObjOk P w H h a o) (k : ∀ b u, (b = a ∨ H b = some (.own a)) → h.get? b = some u → h'.get? b = some u)
    (ho : ∀ b, H b = some (.own a) → H' b = some (.own a)) (ht : ∀ b xs, H b = some (.tup xs) → H' b = some (.tup xs)) : ObjOk P w H' h' a o := by
  induction o with
  | lst xs => obtain ⟨z, its, n, r, e⟩ := x; exact ⟨z, its, n, r, k _ _ (.inl rfl) e⟩
  | tup xs => obtain ⟨z, its, r, ob, e, c⟩ := x; exact ⟨z, its, r, ob, k _ _ (.inl rfl) e, c⟩
  | dK kvs => obtain ⟨z, y, vs, r, ob, es, ep, e, c⟩ := x; exact ⟨z, y, vs, r, ob, es, ep, k _ _ (.inl rfl) e, c⟩
  | dT kvs =>
    obtain ⟨z, y, xs, r, ob, es, ep, e, c⟩ := x
    exact ⟨z, y, xs, Paired.mapP r fun p q z => ⟨z.1, ht _ _ z.2.1, z.2.2⟩, ob, es, ep, k _ _ (.inl rfl) e, c⟩
  | set S n => obtain ⟨ob, es, ep, t, e, c⟩ := x; exact ⟨ob, es, ep, t, k _ _ (.inl rfl) e, c⟩
  | ins C dx fs =>
    obtain ⟨d, z, ne, e, mA, ⟨od, es, ep, e2, c⟩, r⟩ := x
    exact ⟨ho _ d, z, ne, k _ _ (.inl rfl) e, mA, ⟨od, es, ep, k _ _ (.inr d) e2, c⟩, r⟩
  | own y => obtain ⟨ob, e⟩ := x; exact ⟨ob, k _ _ (.inl rfl) e⟩
  | xd fs => obtain ⟨mA, ⟨od, es, ep, e, c⟩, r⟩ := x; exact ⟨mA, ⟨od, es, ep, k _ _ (.inl rfl) e, c⟩, r⟩
  | rng lo hi => obtain ⟨t, u, v, e⟩ := x; exact ⟨t, u, v, k _ _ (.inl rfl) e⟩
  | frz ob u ih => obtain ⟨e, q⟩ := x; exact ⟨k _ _ (.inl rfl) e, ih q⟩
  | tbl ps =>
    have e : h.get? a = some { cls := .none, data := .fields ps } := x
    show h'.get? a = some { cls := .none, data := .fields ps }
    exact k a _ (.inl rfl) e
  | met f y =>
    have e : h.get? a = some (PySem.W.methodObj (.ref f) (.ref y)) := x
    show h'.get? a = some (PySem.W.methodObj (.ref f) (.ref y))
    exact k a _ (.inl rfl) e
  | ext φ => obtain ⟨p, ⟨o, e⟩, st⟩ := x; exact ⟨st _ _ p fun o q => k _ _ (.inl rfl) q, ⟨o, k _ _ (.inl rfl) e⟩, st⟩
theorem HOk.lt (x : HOk P w H h) (e : H a = some o) : a < h.objs.size := (x a o e).lt
theorem HOk.fresh (x : HOk P w H h) (e : h.objs.size ≤ a) : H a = none := by
  cases q : H a with
  | none => rfl
  | some u => exact absurd (Nat.lt_of_lt_of_le (x.lt q) e) (Nat.lt_irrefl _)
/-- every object of the heap is kept -/
theorem HOk.kept (x : HOk P w H h) (k : ∀ b u, h.get? b = some u → h'.get? b = some u) : HOk P w H h' := fun a o e =>
  (x a o e).stay (fun b u _ q => k b u q) (fun _ q => q) fun _ _ q => q
/-- a new object is laid and tracked -/
theorem HOk.laid (x : HOk P w H h) (k : ∀ b u, h.get? b = some u → h'.get? b = some u) (hp : h.objs.size ≤ a) (new : ObjOk P w (upd H a o) h' a o) : HOk P w (upd H a o) h' := fun b u e => by
  have hn := x.fresh hp
  by_cases hb : b = a
  · subst hb; rw [upd_same] at e; cases e; exact new
  · rw [upd_ne hb] at e
    exact (x b u e).stay (fun c v _ q => k c v q) (fun c q => by rw [upd_ne (ne_of_none q hn)]; exact q) fun c xs q => by rw [upd_ne (ne_of_none q hn)]; exact q
end

/-- what may be read as u: it is u, or a known u -/
def Rd (H : Hp) (a : Addr) (u : HO) : Prop := H a = some u ∨ ∃ o, H a = some (.frz o u)
theorem Rd.of {H : Hp} {a : Addr} {u : HO} (h : H a = some u) : Rd H a u := .inl h
theorem Rd.ok {P : Program} {w : World} {H : Hp} {h : Heap} {a : Addr} {u : HO} (r : Rd H a u) (x : HOk P w H h) : ObjOk P w H h a u := by
  rcases r with r | ⟨o, r⟩
  · exact x a u r
  · obtain ⟨_, q⟩ := x a _ r
    exact q
/-- what may be written -/
def Mut : Option HO → Prop
  | some (.lst _) => True
  | some (.dK _) => True
  | some (.dT _) => True
  | some (.set _ _) => True
  | some (.ins _ _ _) => True
  | some (.ext _) => True
  | _ => False
section
variable {P : Program} {w : World} {H : Hp} {h h' : Heap} {x e : Addr} {o' : HO}
/-- the object at e is changed: x itself, or the dict of the instance x -/
theorem HOk.write (ok : HOk P w H h) (mu : Mut (H x)) (he : e = x ∨ H e = some (.own x)) (k : ∀ b u, b ≠ e → h.get? b = some u → h'.get? b = some u) (heo : ∃ u, h'.get? e = some u)
    (new : ObjOk P w (upd H x o') h' x o') : HOk P w (upd H x o') h' := fun b u q => by
  have nown : ∀ c y, H c = some (.own y) → c ≠ x := fun c y r z => by subst z; rw [r] at mu; exact mu
  have ntup : ∀ c xs, H c = some (.tup xs) → c ≠ x := fun c xs r z => by subst z; rw [r] at mu; exact mu
  by_cases hb : b = x
  · subst hb; rw [upd_same] at q; cases q; exact new
  · rw [upd_ne hb] at q
    by_cases hbe : b = e
    · have q' : H b = some (.own x) := by
        rcases he with z | z
        · exact absurd (hbe.trans z) hb
        · rw [hbe]; exact z
      rw [q] at q'; cases q'
      obtain ⟨v, hv⟩ := heo
      exact ⟨v, by rw [hbe]; exact hv⟩
    · refine (ok b u q).stay (fun c v hc r => k c v ?_ r) (fun c r => by rw [upd_ne (nown c b r)]; exact r) fun c xs r => by rw [upd_ne (ntup c xs r)]; exact r
      rcases hc with rfl | hc
      · exact hbe
      · rintro rfl
        rcases he with z | z
        · exact nown c b hc z
        · rw [hc] at z; cases z; exact hb rfl
end

/-! ### kept unless tracked; of the frames at fs (the callers') the slots may change (an exception that passes writes there); of the records at ex (iterators) nothing is said -/
structure Un (fs ex : List Addr) (H H' : Hp) (h h' : Heap) : Prop where
  keep : ∀ b o, h.get? b = some o → H b = none → b ∉ fs → b ∉ ex → h'.get? b = some o
  slot : ∀ b o, h.get? b = some o → H b = none → b ∈ fs → b ∉ ex → ∃ sl, h'.get? b = some { o with slots := sl }
  free : ∀ b o, h.get? b = some o → H b = none → b ∉ ex → H' b = none
  there : ∀ b o, h.get? b = some o → b ∉ ex → ∃ o', h'.get? b = some o'
  tups : ∀ b xs, H b = some (.tup xs) → H' b = some (.tup xs)
  frzs : ∀ b o u, H b = some (.frz o u) → H' b = some (.frz o u)
  tbls : ∀ b ps, H b = some (.tbl ps) → ∃ more, H' b = some (.tbl (ps ++ more))
section
variable {fs fs' ex ex' : List Addr} {H H1 H2 : Hp} {h h1 h2 h' : Heap} {a x e : Addr} {o : HO}
theorem Un.any (u : Un fs ex H H1 h h1) {b : Addr} {ob : Obj} (q : h.get? b = some ob) (n : H b = none) (hx : b ∉ ex) : ∃ sl, h1.get? b = some { ob with slots := sl } := by
  by_cases hb : b ∈ fs
  · exact u.slot b ob q n hb hx
  · exact ⟨ob.slots, u.keep b ob q n hb hx⟩
theorem Un.trans (a : Un fs ex H H1 h h1) (b : Un fs ex H1 H2 h1 h2) : Un fs ex H H2 h h2 where
  keep := fun c ob q n hc hx => b.keep c ob (a.keep c ob q n hc hx) (a.free c ob q n hx) hc hx
  slot := fun c ob q n hc hx => by
    obtain ⟨sl, e1⟩ := a.slot c ob q n hc hx
    obtain ⟨sl', e2⟩ := b.slot c _ e1 (a.free c ob q n hx) hc hx
    exact ⟨sl', e2⟩
  free := fun c ob q n hx => by
    obtain ⟨o', e1⟩ := a.there c ob q hx
    exact b.free c o' e1 (a.free c ob q n hx) hx
  there := fun c ob q hx => by
    obtain ⟨o', e1⟩ := a.there c ob q hx
    exact b.there c o' e1 hx
  tups := fun c xs q => b.tups c xs (a.tups c xs q)
  frzs := fun c ob xs q => b.frzs c ob xs (a.frzs c ob xs q)
  tbls := fun c ps q => by
    obtain ⟨m1, e1⟩ := a.tbls c ps q
    obtain ⟨m2, e2⟩ := b.tbls c _ e1
    exact ⟨m1 ++ m2, by rw [e2, Array.append_assoc]⟩
theorem Un.kept (k : ∀ b u, h.get? b = some u → h'.get? b = some u) : Un fs ex H H h h' :=
  ⟨fun b ob q _ _ _ => k b ob q, fun b ob q _ _ _ => ⟨ob.slots, k b ob q⟩, fun _ _ _ n _ => n, fun b ob q _ => ⟨ob, k b ob q⟩, fun _ _ q => q, fun _ _ _ q => q, fun _ ps q => ⟨#[], by rw [q]; simp⟩⟩
theorem Un.refl : Un fs ex H H h h := Un.kept fun _ _ q => q
theorem Un.laid (k : ∀ b u, h.get? b = some u → h'.get? b = some u) (hp : h.objs.size ≤ a) (hn : H a = none) : Un fs ex H (upd H a o) h h' where
  keep := fun b u q _ _ _ => k b u q
  slot := fun b u q _ _ _ => ⟨u.slots, k b u q⟩
  free := fun b u q n _ => by rw [upd_ne (Nat.ne_of_lt (Nat.lt_of_lt_of_le (Heap.lt_size q) hp))]; exact n
  there := fun b u q _ => ⟨u, k b u q⟩
  tups := fun b xs q => by rw [upd_ne (ne_of_none q hn)]; exact q
  frzs := fun b u xs q => by rw [upd_ne (ne_of_none q hn)]; exact q
  tbls := fun b ps q => ⟨#[], by rw [upd_ne (ne_of_none q hn), q]; simp⟩
theorem Un.write (mu : Mut (H x)) (he : e = x ∨ H e = some (.own x)) (k : ∀ b u, b ≠ e → h.get? b = some u → h'.get? b = some u) (heo : ∃ u, h'.get? e = some u) : Un fs ex H (upd H x o) h h' := by
  have hx : ∀ b, H b = none → b ≠ x := fun b n z => by subst z; rw [n] at mu; exact mu
  have hb : ∀ b, H b = none → b ≠ e := fun b n z => by
    subst z
    rcases he with r | r
    · exact hx b n r
    · rw [n] at r; cases r
  have hm : ∀ b u, H b = some u → ¬ Mut (some u) → b ≠ x := fun b u q nm z => by subst z; rw [q] at mu; exact nm mu
  refine ⟨fun b u q n _ _ => k b u (hb b n) q, fun b u q n _ _ => ⟨u.slots, k b u (hb b n) q⟩, fun b u q n _ => by rw [upd_ne (hx b n)]; exact n, fun b u q _ => ?_,
    fun b xs q => by rw [upd_ne (hm b _ q fun z => z)]; exact q, fun b u xs q => by rw [upd_ne (hm b _ q fun z => z)]; exact q, fun b ps q => ⟨#[], by rw [upd_ne (hm b _ q fun z => z), q]; simp⟩⟩
  by_cases hbe : b = e
  · subst hbe; exact heo
  · exact ⟨u, k b u hbe q⟩
theorem Un.mono (u : Un fs ex H H1 h h1) (hs : ∀ b ∈ fs, b ∈ fs') (hx : ∀ b ∈ ex, b ∈ ex') : Un fs' ex' H H1 h h1 :=
  ⟨fun b ob q n hb he => u.keep b ob q n (fun z => hb (hs b z)) fun z => he (hx b z), fun _ _ q n _ he => u.any q n fun z => he (hx _ z), fun b ob q n he => u.free b ob q n fun z => he (hx b z), fun b ob q he => u.there b ob q fun z => he (hx b z), u.tups, u.frzs, u.tbls⟩
end

/-! ### the heap without what is tracked -/
def trk (h : Heap) (H : Hp) : List Addr := (List.range h.objs.size).filter fun a => (H a).isSome
def hidT (h : Heap) (H : Hp) : Heap := PySem.W.hideAll h (trk h H)
theorem hidT_size (h : Heap) (H : Hp) : (hidT h H).objs.size = h.objs.size := PySem.W.hideAll_size _ _
theorem hidT_get {h : Heap} {H : Hp} {b : Addr} {o : Obj} (e : h.get? b = some o) (n : H b = none) : (hidT h H).get? b = some o :=
  PySem.W.hideAll_get _ e fun hm => by
    have q : (H b).isSome = true := (List.mem_filter.mp hm).2
    rw [n] at q; simp at q
theorem of_hidT {h : Heap} {H : Hp} {b : Addr} {o : Obj} (e : (hidT h H).get? b = some o) : h.get? b = some o ∧ H b = none := by
  have e' : h.get? b = some o := PySem.W.of_hideAll (trk h H) e
  refine ⟨e', ?_⟩
  cases q : H b with
  | none => rfl
  | some x =>
    have hm : b ∈ trk h H := List.mem_filter.mpr ⟨List.mem_range.mpr (Heap.lt_size e'), by simp [q]⟩
    have z : (hidT h H).get? b = none := PySem.W.hideAll_none (trk h H) hm
    rw [z] at e; cases e

/-! ### OpenK's ledger, filled with every new object but one -/
def allNews (g h : Heap) (L : Addr) : List (Addr × Obj) := (List.range h.objs.size).filterMap fun a => if a = L ∨ (g.get? a).isSome = true then none else (h.get? a).map fun o => (a, o)
def rest (g h : Heap) (L d : Addr) : List (Addr × Obj) := (allNews g h L).filter fun p => decide (p.1 ≠ d)
end L2

namespace L2
open PySem PySem.Spec PyProof.Rows

/-- the module's facts, over the base: the heap at the law's entry without what is tracked there -/
structure Mod (K : PySem.W.Frag) (mg : Str → Option Value) (base : Heap) : Prop where
  kin : K.In base
  glob : base.Ns mainGlobals mg
  blt : ∃ mb, base.Ns builtinsNs mb ∧ ∀ x : Str, x ≠ "__name__" → mb x = bootBuiltins x
  nolimit : base.NoLimit

/-- the context: a def's body (or a comprehension's block) running. base: fixed through the whole law; s₀, H₀: the entry; outer: the frames whose slots others may change (a def's callers); stack: all frames that run;
   ex: iterators that were made ahead of the entry and are walked here (a comprehension's); fn: the names whose cells were made at the entry (a def: all; a comprehension's block: its own); calm: not within an except suite; pn: pins that every state bears; xe: what is wanted of an exception that leaves the code -/
structure Cx where
  prog : Program
  w : World
  K : PySem.W.Frag
  mg : Str → Option Value
  base : Heap
  A : Around
  N : List Str
  s₀ : Shared
  H₀ : Hp
  env : Env
  outer : List Env
  stack : List Env
  ex : List Addr
  fn : Str → Bool
  calm : Bool
  pn : List (Addr × Obj)
  xe : Value → Shared → Prop
/-- the callers' frames -/
def frs (l : List Env) : List Addr := l.filterMap (·.frame)
abbrev Cx.fs (X : Cx) : List Addr := frs X.outer

def Vis (sc : Scope) (x : Str) : Prop := sc.names.lookup x = some .local ∨ sc.names.lookup x = some .cell ∨ sc.names.lookup x = some .free
def Loc (sc : Scope) (x : Str) : Prop := sc.names.lookup x = some .local ∨ sc.names.lookup x = some .cell
def Look (env : Env) (h : Heap) (m : Str → Option Value) (x : Str) (u : Value) : Prop :=
  (env.kindOf x = some .local ∧ m x = some u) ∨ ((env.kindOf x = some .cell ∨ env.kindOf x = some .free) ∧ ∃ c, env.cells.lookup x = some c ∧ h.IsCell c (some u))

structure Cx.Ok (X : Cx) : Prop where
  mod : Mod X.K X.mg X.base
  kind : X.env.scope.kind = .function
  glob : X.env.globals = mainGlobals
  blt : X.env.builtins = builtinsNs
  above : X.s₀.heap.objs.size ≤ X.env.locals
  inj : ∀ x y c, X.env.cells.lookup x = some c → X.env.cells.lookup y = some c → x = y
  has : ∀ x, (X.env.kindOf x = some .cell ∨ X.env.kindOf x = some .free) → ∃ c, X.env.cells.lookup x = some c
  cab : ∀ x c, X.fn x = true → X.env.cells.lookup x = some c → X.s₀.heap.objs.size ≤ c
  hd : X.calm = true → X.A.handled = none
  frames : X.A.frames = some X.stack
  stk : X.stack = X.outer ∨ (X.stack = X.env :: X.outer ∧ X.env.frame = some X.env.locals)
  exf : ∀ b ∈ X.ex, b ≠ X.env.locals ∧ ∀ x c, X.env.cells.lookup x = some c → c ≠ b
  bs : ∀ b o, X.base.get? b = some o → X.s₀.heap.get? b = some o ∧ X.H₀ b = none
  bsz : X.base.objs.size ≤ X.s₀.heap.objs.size
  noex : ∀ b o, X.base.get? b = some o → b ∉ X.ex
  exfs : ∀ b ∈ X.ex, b ∉ X.fs
  funs : X.s₀.heap.FunFrames X.base X.outer
  frf : ∀ b ∈ X.fs, X.H₀ b = none

structure Inv (X : Cx) (pins : List (Addr × Obj)) (σ : List (Option V)) (H : Hp) (s : Shared) : Prop where
  ok : X.Ok
  os : s.os = X.s₀.os
  bare : AllBare s.gens
  base : Un X.fs X.ex X.H₀ H X.s₀.heap s.heap
  loc : ∃ m, s.heap.Ns X.env.locals m ∧ ∀ (i : Nat) (x : Str) (v : V), X.N[i]? = some x → σ[i]? = some (some v) → Vis X.env.scope x → ∃ u, RelV v u ∧ Look X.env s.heap m x u
  cell : ∀ x c, X.env.cells.lookup x = some c → ∃ v, s.heap.IsCell c v
  free : H X.env.locals = none
  freeC : ∀ x c, X.env.cells.lookup x = some c → H c = none
  pin : ∀ p ∈ X.pn ++ pins, s.heap.get? p.1 = some p.2 ∧ H p.1 = none ∧ p.1 ≠ X.env.locals ∧ p.1 ∉ X.fs ∧ ∀ v, p.2.data ≠ .cell v
  hok : HOk X.prog X.w H s.heap
  len : σ.length = X.N.length

section
variable {X : Cx} {pins : List (Addr × Obj)} {σ : List (Option V)} {H H' : Hp} {s : Shared} {h' : Heap}

theorem Cx.Ok.nofr (ok : X.Ok) {b : Addr} {o : Obj} (e : X.base.get? b = some o) : b ∉ X.fs := fun hb => by
  have := (ok.funs.mem hb).1
  rw [e] at this; cases this
theorem Inv.bs (I : Inv X pins σ H s) : ∀ b o, X.base.get? b = some o → s.heap.get? b = some o ∧ H b = none := fun b o e =>
  ⟨I.base.keep b o (I.ok.bs b o e).1 (I.ok.bs b o e).2 (I.ok.nofr e) (I.ok.noex b o e), I.base.free b o (I.ok.bs b o e).1 (I.ok.bs b o e).2 (I.ok.noex b o e)⟩
theorem Inv.bk (I : Inv X pins σ H s) : ∀ b o, X.base.get? b = some o → s.heap.get? b = some o := fun b o e => (I.bs b o e).1
theorem Inv.mod (I : Inv X pins σ H s) : Mod X.K X.mg X.base := I.ok.mod
theorem Inv.kIn (I : Inv X pins σ H s) : X.K.In s.heap := I.ok.mod.kin.keeps I.bk
theorem Inv.nolimit (I : Inv X pins σ H s) : s.heap.NoLimit := I.ok.mod.nolimit.keeps I.bk
/-- the frame over the base: for OpenK's rules (K.In X.base is I.mod.kin) -/
theorem Inv.fr (I : Inv X pins σ H s) : ∃ m, Fr X.base X.env.locals s.heap m :=
  let ⟨m, hn, _⟩ := I.loc
  ⟨m, hn, I.bk, Nat.le_trans I.ok.bsz I.ok.above⟩
theorem Inv.lt (I : Inv X pins σ H s) : X.env.locals < s.heap.objs.size := let ⟨_, hn, _⟩ := I.loc; hn.lt
theorem Inv.sz (I : Inv X pins σ H s) : X.s₀.heap.objs.size ≤ s.heap.objs.size := Nat.le_trans I.ok.above (Nat.le_of_lt I.lt)
theorem Inv.nofs (I : Inv X pins σ H s) {a : Addr} (h : s.heap.objs.size ≤ a) : a ∉ X.fs := fun hb => by
  obtain ⟨_, o, ho, _⟩ := I.ok.funs.mem hb
  exact absurd (Nat.lt_of_lt_of_le (Heap.lt_size ho) (Nat.le_trans I.sz h)) (Nat.lt_irrefl _)
theorem Inv.cne (I : Inv X pins σ H s) : ∀ x c, X.env.cells.lookup x = some c → c ≠ X.env.locals := fun x c e z => by
  obtain ⟨v, o, ho, hd⟩ := I.cell x c e
  obtain ⟨m, ⟨o', es, ep, ho', hd', _⟩, _⟩ := I.loc
  rw [z, ho'] at ho; cases ho; rw [hd'] at hd; cases hd
theorem Inv.funs (I : Inv X pins σ H s) : s.heap.FunFrames X.base X.outer := by
  have all : ∀ (l : List Env), (∀ b ∈ frs l, b ∈ X.fs) → X.s₀.heap.FunFrames X.base l → s.heap.FunFrames X.base l := by
    intro l
    induction l with
    | nil => intro _ _; trivial
    | cons env r ih =>
      intro hs hl
      obtain ⟨hk, ⟨L, o, hf, hn, ho, hd⟩, hr⟩ := hl
      have hL : L ∈ X.fs := hs L (by unfold frs; rw [List.filterMap_cons, hf]; exact List.mem_cons_self)
      obtain ⟨sl, e⟩ := I.base.slot L o ho (I.ok.frf L hL) hL fun z => I.ok.exfs L z hL
      exact ⟨hk, ⟨L, _, hf, hn, e, hd⟩, ih (fun b hb => hs b (by unfold frs; rw [List.filterMap_cons, hf]; exact List.mem_cons_of_mem _ hb)) hr⟩
  exact all X.outer (fun _ hb => hb) I.ok.funs

/-- the frames that run, for a call -/
theorem Inv.stack (I : Inv X pins σ H s) : s.heap.FunFrames X.base X.stack := by
  rcases I.ok.stk with e | ⟨e, hf⟩
  · rw [e]; exact I.funs
  · rw [e]
    obtain ⟨m, hn, _⟩ := I.loc
    refine .cons (by rw [I.ok.kind]; decide) hf hn ?_ I.funs
    exact Heap.get?_none_of_le (Nat.le_trans I.ok.bsz I.ok.above)
theorem Inv.stkSub (I : Inv X pins σ H s) : ∀ b ∈ frs X.stack, b ∈ X.env.locals :: X.fs := fun b hb => by
  rcases I.ok.stk with e | ⟨e, hf⟩
  · rw [e] at hb; exact List.mem_cons_of_mem _ hb
  · rw [e] at hb
    unfold frs at hb
    rw [List.filterMap_cons, hf] at hb
    exact hb
theorem Inv.stkFree (I : Inv X pins σ H s) : ∀ b ∈ frs X.stack, H b = none := fun b hb => by
  rcases List.mem_cons.mp (I.stkSub b hb) with e | hb
  · rw [e]; exact I.free
  · obtain ⟨_, o, ho, _⟩ := I.ok.funs.mem hb
    exact I.base.free b o ho (I.ok.frf b hb) fun z => I.ok.exfs b z hb

/-- THE STEP: the untracked objects but the frame and the records at ch are kept (the callers' frames up to slots), the frame's map is kept, the new abstract heap is held -/
theorem Inv.step {g' : Array GenState} {t' : Nat} {d' : Drawn} {ch : List Addr} (I : Inv X pins σ H s)
    (hch : ∀ b ∈ ch, (b ∈ X.ex ∨ X.s₀.heap.objs.size ≤ b) ∧ b ≠ X.env.locals ∧ (∀ x c, X.env.cells.lookup x = some c → c ≠ b) ∧ ∀ p ∈ X.pn ++ pins, p.1 ≠ b)
    (keep : ∀ b o, b ≠ X.env.locals → b ∉ X.fs → b ∉ ch → s.heap.get? b = some o → H b = none → h'.get? b = some o)
    (slot : ∀ b o, b ≠ X.env.locals → b ∈ X.fs → b ∉ ch → s.heap.get? b = some o → H b = none → ∃ sl, h'.get? b = some { o with slots := sl }) (free : ∀ b o, b ∉ ch → s.heap.get? b = some o → H b = none → H' b = none)
    (there : ∀ b o, b ∉ ch → s.heap.get? b = some o → ∃ o', h'.get? b = some o')
    (tups : ∀ b xs, H b = some (.tup xs) → H' b = some (.tup xs)) (frzs : ∀ b o u, H b = some (.frz o u) → H' b = some (.frz o u)) (tbls : ∀ b ps, H b = some (.tbl ps) → ∃ more, H' b = some (.tbl (ps ++ more)))
    (ns : ∀ m, s.heap.Ns X.env.locals m → h'.Ns X.env.locals m) (hok : HOk X.prog X.w H' h') (hg : AllBare g') :
    Inv X pins σ H' { s with heap := h', gens := g', drawn := d', toks := t' } := by
  have neL : ∀ b o, X.s₀.heap.get? b = some o → b ≠ X.env.locals := fun b o e => Nat.ne_of_lt (Nat.lt_of_lt_of_le (Heap.lt_size e) I.ok.above)
  have neC : ∀ b o, X.s₀.heap.get? b = some o → b ∉ X.ex → b ∉ ch := fun b o e hx hb => by
    rcases (hch b hb).1 with z | z
    · exact hx z
    · exact absurd (Nat.lt_of_lt_of_le (Heap.lt_size e) z) (Nat.lt_irrefl _)
  have cellK : ∀ x c, X.env.cells.lookup x = some c → ∀ v, s.heap.IsCell c v → h'.IsCell c v := fun x c e v ⟨o, ho, hd⟩ => by
    have nch : c ∉ ch := fun z => (hch c z).2.2.1 x c e rfl
    by_cases hc : c ∈ X.fs
    · obtain ⟨sl, q⟩ := slot c o (I.cne x c e) hc nch ho (I.freeC x c e)
      exact ⟨_, q, hd⟩
    · exact ⟨o, keep c o (I.cne x c e) hc nch ho (I.freeC x c e), hd⟩
  refine ⟨I.ok, I.os, hg, ⟨fun b o e n hb hx => ?_, fun b o e n hb hx => ?_, fun b o e n hx => ?_, fun b o e hx => ?_, fun b xs e => tups b xs (I.base.tups b xs e), fun b o xs e => frzs b o xs (I.base.frzs b o xs e), fun b ps e => ?_⟩, ?_, fun x c e => ?_, ?_, fun x c e => ?_, fun p hp => ?_, hok, I.len⟩
  · exact keep b o (neL b o e) hb (neC b o e hx) (I.base.keep b o e n hb hx) (I.base.free b o e n hx)
  · obtain ⟨sl, e1⟩ := I.base.slot b o e n hb hx
    obtain ⟨sl', e2⟩ := slot b _ (neL b o e) hb (neC b o e hx) e1 (I.base.free b o e n hx)
    exact ⟨sl', e2⟩
  · obtain ⟨o', e1⟩ := I.base.there b o e hx
    exact free b o' (neC b o e hx) e1 (I.base.free b o e n hx)
  · obtain ⟨o', e1⟩ := I.base.there b o e hx
    exact there b o' (neC b o e hx) e1
  · obtain ⟨m1, e1⟩ := I.base.tbls b ps e
    obtain ⟨m2, e2⟩ := tbls b _ e1
    exact ⟨m1 ++ m2, by rw [e2, Array.append_assoc]⟩
  · obtain ⟨m, hn, hl⟩ := I.loc
    refine ⟨m, ns m hn, fun i x v e1 e2 e3 => ?_⟩
    obtain ⟨u, r, l⟩ := hl i x v e1 e2 e3
    refine ⟨u, r, ?_⟩
    rcases l with l | ⟨k, c, e, z⟩
    · exact .inl l
    · exact .inr ⟨k, c, e, cellK x c e _ z⟩
  · obtain ⟨v, z⟩ := I.cell x c e
    exact ⟨v, cellK x c e v z⟩
  · obtain ⟨m, ⟨o, _, _, ho, _⟩, _⟩ := I.loc
    exact free _ o (fun z => (hch _ z).2.1 rfl) ho I.free
  · obtain ⟨v, o, ho, hd⟩ := I.cell x c e
    exact free c o (fun z => (hch c z).2.2.1 x c e rfl) ho (I.freeC x c e)
  · obtain ⟨e, n, ne, nf, d⟩ := I.pin p hp
    have nch : p.1 ∉ ch := fun z => (hch p.1 z).2.2.2 p hp rfl
    exact ⟨keep p.1 p.2 ne nf nch e n, free p.1 p.2 nch e n, ne, nf, d⟩
/-- .. where the frame's own object is kept too -/
theorem Inv.un {t' : Nat} (I : Inv X pins σ H s) (u : Un X.fs [] H H' s.heap h') (hok : HOk X.prog X.w H' h') : Inv X pins σ H' { s with heap := h', toks := t' } := by
  obtain ⟨m, ⟨o, es, ep, ho, r⟩, _⟩ := id I.loc
  obtain ⟨sl, hL⟩ := u.any ho I.free (by simp)
  exact I.step (g' := s.gens) (d' := s.drawn) (ch := []) (fun _ z => nomatch z) (fun b o _ hb _ e n => u.keep b o e n hb (by simp)) (fun b o _ hb _ e n => u.slot b o e n hb (by simp)) (fun b o _ e n => u.free b o e n (by simp)) (fun b o _ e => u.there b o e (by simp)) u.tups u.frzs u.tbls (fun m' hm => by
    obtain ⟨o', es', ep', ho', r'⟩ := hm
    rw [ho] at ho'; cases ho'
    exact ⟨_, es', ep', hL, r'⟩) hok I.bare
/-- behind a call (or a comprehension's block): the slots of this frame may have changed too, the records at ch may have turned -/
theorem Inv.call {g' : Array GenState} {t' : Nat} {d' : Drawn} {ch : List Addr} (I : Inv X pins σ H s) (u : Un (frs X.stack) ch H H' s.heap h') (hok : HOk X.prog X.w H' h') (hg : AllBare g')
    (hch : ∀ b ∈ ch, (b ∈ X.ex ∨ X.s₀.heap.objs.size ≤ b) ∧ b ≠ X.env.locals ∧ (∀ x c, X.env.cells.lookup x = some c → c ≠ b) ∧ ∀ p ∈ X.pn ++ pins, p.1 ≠ b) :
    Inv X pins σ H' { s with heap := h', gens := g', drawn := d', toks := t' } := by
  obtain ⟨m, ⟨o, es, ep, ho, r⟩, _⟩ := id I.loc
  obtain ⟨sl, hL⟩ := u.any ho I.free fun z => (hch _ z).2.1 rfl
  exact I.step (ch := ch) hch (fun b o hL hb hc e n => u.keep b o e n (fun z => (List.mem_cons.mp (I.stkSub b z)).elim hL hb) hc) (fun b o _ _ hc e n => u.any e n hc) (fun b o hc e n => u.free b o e n hc) (fun b o hc e => u.there b o e hc) u.tups u.frzs u.tbls (fun m' hm => by
    obtain ⟨o', es', ep', ho', r'⟩ := hm
    rw [ho] at ho'; cases ho'
    exact ⟨_, es', ep', hL, r'⟩) hok hg
/-- an untracked record of ours (an iterator) has turned -/
theorem Inv.turned {t' : Nat} {it : Addr} (I : Inv X pins σ H s) (k : ∀ b o, b ≠ it → s.heap.get? b = some o → h'.get? b = some o) (hn : H it = none) (hL : it ≠ X.env.locals)
    (h1 : it ∈ X.ex ∨ X.s₀.heap.objs.size ≤ it) (h2 : ∀ x c, X.env.cells.lookup x = some c → c ≠ it) (h3 : ∀ p ∈ X.pn ++ pins, p.1 ≠ it) : Inv X pins σ H { s with heap := h', toks := t' } := by
  have nit : ∀ b u, H b = some u → b ≠ it := fun b u e z => by rw [z, hn] at e; cases e
  refine I.step (g' := s.gens) (d' := s.drawn) (ch := [it]) (fun b hb => ?_) (fun b o _ _ hc e _ => k b o (fun z => hc (by simp [z])) e) (fun b o _ _ hc e _ => ⟨o.slots, k b o (fun z => hc (by simp [z])) e⟩) (fun _ _ _ _ n => n)
    (fun b o hc e => ⟨o, k b o (fun z => hc (by simp [z])) e⟩) (fun _ _ e => e) (fun _ _ _ e => e) (fun b ps e => ⟨#[], by rw [e]; simp⟩) (fun m hm => ?_) (fun b u e => ?_) I.bare
  · have e : b = it := by simpa using hb
    subst e
    exact ⟨h1, hL, h2, h3⟩
  · obtain ⟨o, es, ep, ho, r⟩ := hm
    exact ⟨o, es, ep, k _ o (Ne.symm hL) ho, r⟩
  · refine (I.hok b u e).stay (fun c v hc q => k c v ?_ q) (fun _ q => q) fun _ _ q => q
    rcases hc with z | z
    · rw [z]; exact nit b u e
    · exact nit c _ z
theorem Inv.tok (I : Inv X pins σ H s) (t : Nat) : Inv X pins σ H { s with toks := t } := I.un (h' := s.heap) (t' := t) Un.refl I.hok
/-- all objects kept -/
theorem Inv.kept {t' : Nat} (I : Inv X pins σ H s) (k : ∀ b u, s.heap.get? b = some u → h'.get? b = some u) : Inv X pins σ H { s with heap := h', toks := t' } := I.un (Un.kept k) (I.hok.kept k)
/-- a new object laid and tracked -/
theorem Inv.laid {a : Addr} {o : HO} {t' : Nat} (I : Inv X pins σ H s) (k : ∀ b u, s.heap.get? b = some u → h'.get? b = some u) (hp : s.heap.objs.size ≤ a) (new : ObjOk X.prog X.w (upd H a o) h' a o) :
    Inv X pins σ (upd H a o) { s with heap := h', toks := t' } := I.un (Un.laid k hp (I.hok.fresh hp)) (I.hok.laid k hp new)
/-- an object written -/
theorem Inv.write {x e : Addr} {o : HO} {t' : Nat} (I : Inv X pins σ H s) (mu : Mut (H x)) (he : e = x ∨ H e = some (.own x)) (k : ∀ b u, b ≠ e → s.heap.get? b = some u → h'.get? b = some u) (heo : ∃ u, h'.get? e = some u)
    (new : ObjOk X.prog X.w (upd H x o) h' x o) : Inv X pins σ (upd H x o) { s with heap := h', toks := t' } := I.un (Un.write mu he k heo) (I.hok.write mu he k heo new)
theorem Inv.pins_of {pins' : List (Addr × Obj)} (I : Inv X pins σ H s) (h : ∀ p ∈ pins', s.heap.get? p.1 = some p.2 ∧ H p.1 = none ∧ p.1 ≠ X.env.locals ∧ p.1 ∉ X.fs ∧ ∀ v, p.2.data ≠ .cell v) : Inv X pins' σ H s :=
  ⟨I.ok, I.os, I.bare, I.base, I.loc, I.cell, I.free, I.freeC, fun p hp => (List.mem_append.mp hp).elim (fun z => I.pin p (List.mem_append_left _ z)) (h p), I.hok, I.len⟩

theorem nodup_ix {N : List Str} (hN : N.Nodup) {i j : Nat} {x : Str} (a : N[i]? = some x) (b : N[j]? = some x) : i = j := by
  obtain ⟨h1, e1⟩ := List.getElem?_eq_some_iff.mp a
  obtain ⟨h2, e2⟩ := List.getElem?_eq_some_iff.mp b
  exact (List.getElem_inj hN).mp (e1.trans e2.symm)

/-- a name is stored; what changed -/
theorem store_ok2 {M : Model} {A : Around} {E : Value → Shared → Prop} {i : Nat} {x : Str} {v : V} {u : Value} {Q : Unit → Shared → Prop} (I : Inv X pins σ H s) (hN : X.N.Nodup) (hi : X.N[i]? = some x) (hx : Loc X.env.scope x) (r : RelV v u)
    (h : ∀ s', Inv X pins (σ.set i (some v)) H s' → (∃ a, Heap.SameBut a s.heap s'.heap ∧ (a = X.env.locals ∨ X.env.cells.lookup x = some a)) → Q () s') (hf : X.fn x = true ∨ X.env.scope.names.lookup x = some .local := by first | exact .inl rfl | exact .inr rfl | assumption) : wpAny M A (storeName X.env x u) Q E s := by
  obtain ⟨m, hn, hl⟩ := id I.loc
  have hcls : (X.env.scope.kind == .class || (X.env.scope.kind == .module && X.env.locals != X.env.globals)) = false := by rw [I.ok.kind]; rfl
  have hiσ : i < σ.length := by rw [I.len]; exact (List.getElem?_eq_some_iff.mp hi).1
  have cne := I.cne
  have tracked : ∀ {a : Addr} {h' : Heap}, (∃ o, s.heap.get? a = some o ∧ H a = none) → Heap.SameBut a s.heap h' → HOk X.prog X.w H h' := fun {a h'} ha hs b ob e => by
    obtain ⟨_, _, hfree⟩ := ha
    refine (I.hok b ob e).stay (fun c w' hc q => (hs.2 c ?_).trans q) (fun _ q => q) fun _ _ q => q
    rintro rfl
    rcases hc with rfl | hc
    · rw [hfree] at e; cases e
    · rw [hfree] at hc; cases hc
  rcases hx with hk | hk
  · refine wpAny_storeName_local hk hn (fun h' hn' hs => ?_) hcls
    obtain ⟨oL, _, _, hoL, _⟩ := id hn
    refine h _ ⟨I.ok, I.os, I.bare, ⟨fun b o e n hb hx => ?_, fun b o e n hb hx => ?_, I.base.free, fun b o e hx => ?_, I.base.tups, I.base.frzs, I.base.tbls⟩, ⟨_, hn', fun j y v' e1 e2 e3 => ?_⟩, fun y c e => ?_, I.free, I.freeC, fun p hp => ?_, tracked ⟨oL, hoL, I.free⟩ hs, by simpa using I.len⟩ ⟨_, hs, .inl rfl⟩
    · exact (hs.2 b (Nat.ne_of_lt (Nat.lt_of_lt_of_le (Heap.lt_size e) I.ok.above))).trans (I.base.keep b o e n hb hx)
    · obtain ⟨sl, e1⟩ := I.base.slot b o e n hb hx
      exact ⟨sl, (hs.2 b (Nat.ne_of_lt (Nat.lt_of_lt_of_le (Heap.lt_size e) I.ok.above))).trans e1⟩
    · obtain ⟨o', e1⟩ := I.base.there b o e hx
      exact ⟨o', (hs.2 b (Nat.ne_of_lt (Nat.lt_of_lt_of_le (Heap.lt_size e) I.ok.above))).trans e1⟩
    · by_cases hj : j = i
      · subst hj
        rw [hi] at e1; cases e1
        rw [List.getElem?_set_self hiσ] at e2
        cases e2
        exact ⟨u, r, .inl ⟨hk, by simp⟩⟩
      · rw [List.getElem?_set_ne (Ne.symm hj)] at e2
        obtain ⟨u', r', q⟩ := hl j y v' e1 e2 e3
        refine ⟨u', r', ?_⟩
        rcases q with ⟨k, e⟩ | ⟨k, c, e, z⟩
        · refine .inl ⟨k, ?_⟩
          have : y ≠ x := fun e => hj (nodup_ix hN e1 (e ▸ hi))
          simp [this, e]
        · exact .inr ⟨k, c, e, z.sameBut hs (cne y c e)⟩
    · obtain ⟨w', z⟩ := I.cell y c e
      exact ⟨w', z.sameBut hs (cne y c e)⟩
    · obtain ⟨e, n, ne, nf, d⟩ := I.pin p hp
      exact ⟨(hs.2 p.1 ne).trans e, n, ne, nf, d⟩
  · have hfn : X.fn x = true := by
      rcases hf with z | z
      · exact z
      · rw [z] at hk; cases hk
    obtain ⟨c, hc⟩ := I.ok.has x (.inl hk)
    obtain ⟨w', z⟩ := I.cell x c hc
    refine wpAny_storeName_cell I.ok.kind hk hc z (fun h' hc' hs => ?_)
    obtain ⟨oc, hoc, hocd⟩ := id z
    refine h { s with heap := h' } ⟨I.ok, I.os, I.bare, ⟨fun b o e n hb hx => ?_, fun b o e n hb hx => ?_, I.base.free, fun b o e hx => ?_, I.base.tups, I.base.frzs, I.base.tbls⟩, ⟨m, hn.sameBut hs (Ne.symm (cne x c hc)), fun j y v' e1 e2 e3 => ?_⟩, fun y c' e => ?_, I.free, I.freeC, fun p hp => ?_, tracked ⟨oc, hoc, I.freeC x c hc⟩ hs, by simpa using I.len⟩ ⟨c, hs, .inr hc⟩
    · exact (hs.2 b (Nat.ne_of_lt (Nat.lt_of_lt_of_le (Heap.lt_size e) (I.ok.cab x c hfn hc)))).trans (I.base.keep b o e n hb hx)
    · obtain ⟨sl, e1⟩ := I.base.slot b o e n hb hx
      exact ⟨sl, (hs.2 b (Nat.ne_of_lt (Nat.lt_of_lt_of_le (Heap.lt_size e) (I.ok.cab x c hfn hc)))).trans e1⟩
    · obtain ⟨o', e1⟩ := I.base.there b o e hx
      exact ⟨o', (hs.2 b (Nat.ne_of_lt (Nat.lt_of_lt_of_le (Heap.lt_size e) (I.ok.cab x c hfn hc)))).trans e1⟩
    · by_cases hj : j = i
      · subst hj
        rw [hi] at e1; cases e1
        rw [List.getElem?_set_self hiσ] at e2
        cases e2
        exact ⟨u, r, .inr ⟨.inl hk, c, hc, hc'⟩⟩
      · rw [List.getElem?_set_ne (Ne.symm hj)] at e2
        obtain ⟨u', r', q⟩ := hl j y v' e1 e2 e3
        refine ⟨u', r', ?_⟩
        rcases q with q | ⟨k, c', e, z'⟩
        · exact .inl q
        · refine .inr ⟨k, c', e, z'.sameBut hs ?_⟩
          rintro rfl
          exact hj (nodup_ix hN e1 (I.ok.inj _ _ _ e hc ▸ hi))
    · by_cases hcc : c' = c
      · subst hcc; exact ⟨_, hc'⟩
      · obtain ⟨w2, z2⟩ := I.cell y c' e
        exact ⟨w2, z2.sameBut hs hcc⟩
    · obtain ⟨e, n, ne, nf, d⟩ := I.pin p hp
      refine ⟨(hs.2 p.1 ?_).trans e, n, ne, nf, d⟩
      intro q
      rw [q, hoc] at e
      have q' : oc = p.2 := Option.some.inj e
      exact d w' (by rw [← q']; exact hocd)
theorem store_ok {M : Model} {A : Around} {E : Value → Shared → Prop} {i : Nat} {x : Str} {v : V} {u : Value} {Q : Unit → Shared → Prop} (I : Inv X pins σ H s) (hN : X.N.Nodup) (hi : X.N[i]? = some x) (hx : Loc X.env.scope x) (r : RelV v u)
    (h : ∀ s', Inv X pins (σ.set i (some v)) H s' → Q () s') (hf : X.fn x = true ∨ X.env.scope.names.lookup x = some .local := by first | exact .inl rfl | exact .inr rfl | assumption) : wpAny M A (storeName X.env x u) Q E s :=
  store_ok2 I hN hi hx r (fun s' I' _ => h s' I') hf
/-- behind a call or a block, the state as it is -/
theorem Inv.call' {s' : Shared} {ch : List Addr} (I : Inv X pins σ H s) (ho : s'.os = s.os) (u : Un (frs X.stack) ch H H' s.heap s'.heap) (hok : HOk X.prog X.w H' s'.heap) (hg : AllBare s'.gens)
    (hch : ∀ b ∈ ch, (b ∈ X.ex ∨ X.s₀.heap.objs.size ≤ b) ∧ b ≠ X.env.locals ∧ (∀ x c, X.env.cells.lookup x = some c → c ≠ b) ∧ ∀ p ∈ X.pn ++ pins, p.1 ≠ b) : Inv X pins σ H' s' := by
  obtain ⟨h', g', d', t', o'⟩ := s'
  have e : o' = s.os := ho
  subst e
  exact I.call (g' := g') (t' := t') (d' := d') u hok hg hch
end

/-! ### the judgements -/
/-- an exception: its class, its own dict's address (where it has one), the abstract heap behind it -/
abbrev XK := Value → Option Addr → Hp → Prop
abbrev St := List (Option V)
abbrev VK := V → Hp → Prop
/-- an expression's reading; a test's; an argument list's -/
abbrev TE := St → Hp → VK → Prop
abbrev TT := St → Hp → (Bool → Hp → Prop) → Prop
abbrev TA := St → Hp → (List V → Hp → Prop) → Prop
/-- what is wanted behind a statement -/
structure Ends where
  nx : St → Hp → Prop
  rt : VK
  bk : St → Hp → Prop := fun _ _ => False
  ct : St → Hp → Prop := fun _ _ => False
abbrev TS := Ends → St → Hp → Prop

def EP (X : Cx) (pins : List (Addr × Obj)) (σ : St) (Q : VK) (u : Value) (s' : Shared) : Prop := ∃ v H', Inv X pins σ H' s' ∧ RelV v u ∧ Q v H'
def TP (X : Cx) (pins : List (Addr × Obj)) (σ : St) (Q : Bool → Hp → Prop) (b : Bool) (s' : Shared) : Prop := ∃ H', Inv X pins σ H' s' ∧ Q b H'
def AP (X : Cx) (pins : List (Addr × Obj)) (σ : St) (Q : List V → Hp → Prop) (us : List Value) (s' : Shared) : Prop := ∃ vs H', Inv X pins σ H' s' ∧ Vals vs us ∧ Q vs H'
def SP (X : Cx) (pins : List (Addr × Obj)) (D : Ends) (f : Flow) (s' : Shared) : Prop :=
  match f with
  | .next => ∃ σ' H', Inv X pins σ' H' s' ∧ D.nx σ' H'
  | .brk => ∃ σ' H', Inv X pins σ' H' s' ∧ D.bk σ' H'
  | .cont => ∃ σ' H', Inv X pins σ' H' s' ∧ D.ct σ' H'
  | .ret u => ∃ v σ' H', Inv X pins σ' H' s' ∧ RelV v u ∧ D.rt v H'

def PE (X : Cx) (e : Expr) (t : TE) : Prop :=
  ∀ (pins : List (Addr × Obj)) (s : Shared) (σ : St) (H : Hp) (Q : VK), Inv X pins σ H s → t σ H Q → wpAny (model X.prog X.w) X.A (eval e X.env) (EP X pins σ Q) X.xe s
def PT (X : Cx) (e : Expr) (t : TT) : Prop :=
  ∀ (pins : List (Addr × Obj)) (s : Shared) (σ : St) (H : Hp) (Q : Bool → Hp → Prop), Inv X pins σ H s → t σ H Q → wpAny (model X.prog X.w) X.A (isTrue e X.env (eval e X.env)) (TP X pins σ Q) X.xe s
/-- a test whatever its 'whole' is (and, or) -/
def PW (X : Cx) (e : Expr) (t : TT) : Prop :=
  ∀ (whole : Sem Value) (pins : List (Addr × Obj)) (s : Shared) (σ : St) (H : Hp) (Q : Bool → Hp → Prop), Inv X pins σ H s → t σ H Q → wpAny (model X.prog X.w) X.A (isTrue e X.env whole) (TP X pins σ Q) X.xe s
theorem PW.pt {X : Cx} {e : Expr} {t : TT} (h : PW X e t) : PT X e t := h _
/-- an argument list (no star), from the left -/
def PA (X : Cx) (es : List Expr) (t : TA) : Prop :=
  ∀ (pos : Pos) (pins : List (Addr × Obj)) (s : Shared) (σ : St) (H : Hp) (Q : List V → Hp → Prop), Inv X pins σ H s → t σ H Q → wpAny (model X.prog X.w) X.A (spliced (backTo pos (starEach es X.env))) (AP X pins σ Q) X.xe s
def PS (X : Cx) (st : Stmt) (t : TS) : Prop :=
  ∀ (pins : List (Addr × Obj)) (s : Shared) (σ : St) (H : Hp) (D : Ends), Inv X pins σ H s → t D σ H → wpAny (model X.prog X.w) X.A (exec st X.env) (SP X pins D) X.xe s
def PSs (X : Cx) (st : List Stmt) (t : TS) : Prop :=
  ∀ (pins : List (Addr × Obj)) (s : Shared) (σ : St) (H : Hp) (D : Ends), Inv X pins σ H s → t D σ H → wpAny (model X.prog X.w) X.A (execs st X.env) (SP X pins D) X.xe s
/-- weaken the end -/
theorem thn {α : Type} {t : Sem α} {Q Q' : α → Shared → Prop} {M : Model} {A : Around} {E : Value → Shared → Prop} {s : Shared} (h : wpAny M A t Q E s) (hQ : ∀ a s, Q a s → Q' a s) : wpAny M A t Q' E s := wpAny_mono h hQ fun _ _ x => x
end L2

namespace L2
open PySem PySem.Spec PyProof.Rows
section
variable {X : Cx}

/-! ### names and constants -/
def tVar (i : Nat) : TE := fun σ H Q => ∃ v, σ[i]? = some (some v) ∧ Q v H
def tC (v : V) : TE := fun _ H Q => Q v H
theorem pe_var {i : Nat} {x : Str} {pos : Pos} (hN : X.N[i]? = some x) (hv : Vis X.env.scope x) (hd : (x == ("__debug__" : Str)) = false := by decide) (hcd : (x == ("__classdict__" : Str)) = false := by decide) : PE X (.Name x pos) (tVar i) := by
  intro pins s σ H Q I h
  obtain ⟨v, e, h⟩ := h
  obtain ⟨m, hn, hl⟩ := I.loc
  obtain ⟨u, r, l⟩ := hl i x v hN e hv
  have fin : EP X pins σ Q u s := ⟨v, H, I, r, h⟩
  rcases l with ⟨hk, hm⟩ | ⟨hk, c, hc, hcell⟩
  · exact wpAny_Name (wpAny_loadName_local I.ok.kind hk hn hm fin) hd
  · rcases hk with hk | hk
    · exact wpAny_Name (wpAny_loadName_cell I.ok.kind hk hc hcell fin) hd
    · exact wpAny_Name (wpAny_loadName_free I.ok.kind hk hc hcell fin hcd) hd
theorem pe_int {i j pos} : PE X (.Constant (.int i) j pos) (tC (.int i)) := fun _ _ _ H _ I h => wpAny_Constant_int ⟨.int i, H, I.tok _, ⟨_, rfl⟩, h⟩
theorem pe_bl {b j pos} : PE X (.Constant (.bool b) j pos) (tC (.bl b)) := fun _ _ _ H _ I h => Constant_bool ⟨.bl b, H, I, rfl, h⟩
theorem pe_non {j pos} : PE X (.Constant .none j pos) (tC .non) := fun _ _ _ H _ I h => Constant_none ⟨.non, H, I, rfl, h⟩
theorem pe_str {x j pos} : PE X (.Constant (.str x) j pos) (tC (.str x)) := fun _ _ _ H _ I h => Calls.Constant_str ⟨.str x, H, I.tok _, ⟨_, rfl⟩, h⟩

/-- a global name of the def -/
def Gl (X : Cx) (x : Str) : Prop := X.env.kindOf x = some .globalImplicit
theorem ld_glob {E : Value → Shared → Prop} {pins : List (Addr × Obj)} {s : Shared} {σ : St} {H : Hp} {x : Str} {u : Value} {pos : Pos} {Q : Value → Shared → Prop} (I : Inv X pins σ H s) (hg : Gl X x) (hm : X.mg x = some u) (h : Q u s)
    (hd : (x == ("__debug__" : Str)) = false := by decide) : wpAny (model X.prog X.w) X.A (eval (.Name x pos) X.env) Q E s :=
  Calls.Name_function_global I.ok.kind hg (Calls.loadGlobal_global (by rw [I.ok.glob]; exact I.mod.glob.keeps I.bk) hm h) hd
theorem ld_blt {E : Value → Shared → Prop} {pins : List (Addr × Obj)} {s : Shared} {σ : St} {H : Hp} {x : Str} {u : Value} {pos : Pos} {Q : Value → Shared → Prop} (I : Inv X pins σ H s) (hg : Gl X x) (hm : X.mg x = none) (hv : bootBuiltins x = some u) (h : Q u s)
    (hn : x ≠ "__name__" := by decide) (hd : (x == ("__debug__" : Str)) = false := by decide) : wpAny (model X.prog X.w) X.A (eval (.Name x pos) X.env) Q E s := by
  obtain ⟨mb, h1, h2⟩ := I.mod.blt
  exact Calls.Name_function_global I.ok.kind hg (Calls.loadGlobal_builtin (by rw [I.ok.glob]; exact I.mod.glob.keeps I.bk) hm (by rw [I.ok.blt]; exact h1.keeps I.bk) ((h2 x hn).trans hv) h) hd
/-- a module's constant, a class, a function, as a value -/
theorem pe_glob {x : Str} {v : V} {u : Value} {pos : Pos} (hg : Gl X x) (hm : X.mg x = some u) (r : RelV v u) (hd : (x == ("__debug__" : Str)) = false := by decide) : PE X (.Name x pos) (tC v) :=
  fun _ _ _ H _ I h => ld_glob I hg hm ⟨v, H, I, r, h⟩ hd
theorem pe_bltn {x : Str} {v : V} {u : Value} {pos : Pos} (hg : Gl X x) (hm : X.mg x = none) (hv : bootBuiltins x = some u) (r : RelV v u) (hn : x ≠ "__name__" := by decide) (hd : (x == ("__debug__" : Str)) = false := by decide) : PE X (.Name x pos) (tC v) :=
  fun _ _ _ H _ I h => ld_blt I hg hm hv ⟨v, H, I, r, h⟩ hn hd

/-! ### arithmetic -/
variable {a b : Expr} {ta tb : TE} {pos : Pos}
/-! ### comparisons -/
/-- a comparison as a value, as a test -/
def tB (t : TE) : TT := fun σ H Q => t σ H fun x H1 => ∃ c, x = .bl c ∧ Q c H1
/-- an expression whose value is a bool, as a test -/
theorem pt_val {e : Expr} {t : TE} (h : PE X e t) (he : ∀ whole, isTrue e X.env whole = (do let v ← whole; standAt e.pos; holding [v] (truthy v)) := by intro _; rfl) : PT X e (tB t) := by
  intro pins s σ H Q I hw
  refine isTrue_plain (thn (h pins s σ H _ I hw) fun v s1 ⟨x, H1, I1, r1, q1⟩ => ?_) (he _)
  obtain ⟨d, rfl, q⟩ := q1
  cases r1
  exact wpAny_truthy_bool ⟨H1, I1, q⟩

/-! ### and, or, not -/
variable {tA tB' : TT} {rest : List Expr}
def tAnd (t u : TT) : TT := fun σ H Q => t σ H fun c H1 => if c = true then u σ H1 Q else Q false H1
def tOr (t u : TT) : TT := fun σ H Q => t σ H fun c H1 => if c = true then Q true H1 else u σ H1 Q
def tNot (t : TT) : TT := fun σ H Q => t σ H fun c H1 => Q (!c) H1
theorem pw_and1 (ha : PT X a tA) : PW X (.BoolOp .And [a] pos) tA := by
  intro wh pins s σ H Q I h
  refine isTrue_and (thn (ha pins s σ H Q I h) fun c s1 e => ?_)
  cases c with
  | true => exact isTrue_and_nil e
  | false => exact e
theorem pw_or1 (ha : PT X a tA) : PW X (.BoolOp .Or [a] pos) tA := by
  intro wh pins s σ H Q I h
  refine isTrue_or (thn (ha pins s σ H Q I h) fun c s1 e => ?_)
  cases c with
  | false => exact isTrue_or_nil e
  | true => exact e
theorem pw_and (ha : PT X a tA) (hb : PW X (.BoolOp .And (b :: rest) pos) tB') : PW X (.BoolOp .And (a :: b :: rest) pos) (tAnd tA tB') := by
  intro wh pins s σ H Q I h
  refine isTrue_and (thn (ha pins s σ H _ I h) fun c s1 ⟨H1, I1, q1⟩ => ?_)
  cases c with
  | true => exact hb wh pins s1 σ H1 Q I1 q1
  | false => exact ⟨H1, I1, q1⟩
theorem pw_or (ha : PT X a tA) (hb : PW X (.BoolOp .Or (b :: rest) pos) tB') : PW X (.BoolOp .Or (a :: b :: rest) pos) (tOr tA tB') := by
  intro wh pins s σ H Q I h
  refine isTrue_or (thn (ha pins s σ H _ I h) fun c s1 ⟨H1, I1, q1⟩ => ?_)
  cases c with
  | true => exact ⟨H1, I1, q1⟩
  | false => exact hb wh pins s1 σ H1 Q I1 q1
theorem pt_not (ha : PT X a tA) : PT X (.UnaryOp .Not a pos) (tNot tA) := by
  intro pins s σ H Q I h
  exact isTrue_not (ha pins s σ H (fun c H1 => Q (!c) H1) I h)
/-- a if t else b -/
def tIf (t : TT) (ta tb : TE) : TE := fun σ H Q => t σ H fun c H1 => if c = true then ta σ H1 Q else tb σ H1 Q
theorem pe_ifExp {c : Expr} (hc : PT X c tA) (ha : PE X a ta) (hb : PE X b tb) : PE X (.IfExp c a b pos) (tIf tA ta tb) := by
  intro pins s σ H Q I h
  refine wpAny_IfExp (thn (hc pins s σ H _ I h) fun d s1 ⟨H1, I1, q1⟩ => ?_)
  cases d with
  | true => exact ha pins s1 σ H1 Q I1 q1
  | false => exact hb pins s1 σ H1 Q I1 q1
end
end L2

namespace L2
open PySem PySem.Spec PyProof.Rows

/-! ### a list, a tuple that is read: tracked, frozen, or an object of the module -/
def SqL (K : PySem.W.Frag) (H : Hp) (a : Addr) (xs : List V) : Prop :=
  Rd H a (.lst xs) ∨
    ∃ (o : Obj) (its : Array Value) (n : Nat), K.lookup a = some o ∧ o.cls = .type "list" ∧ o.dict = none ∧ o.data = .seq its n ∧ its.size ≤ sizeLine ∧ Vals xs its.toList
def SqT (K : PySem.W.Frag) (H : Hp) (a : Addr) (xs : List V) : Prop :=
  Rd H a (.tup xs) ∨
    ∃ (o : Obj) (its : Array Value) (n : Nat), K.lookup a = some o ∧ o.cls = .type "tuple" ∧ o.data = .seq its n ∧ its.size ≤ sizeLine ∧ Vals xs its.toList
def absV : Value → Option V
  | .none => some .non
  | .bool b => some (.bl b)
  | .int i _ => some (.int i)
  | .str x _ => some (.str x)
  | .bytes b _ => some (.byt b)
  | .float b _ => some (.flt b)
  | .ref a => some (.ref a)
  | .type n => some (.ty n)
  | _ => none
theorem RelV.abs {x : V} {u : Value} (r : RelV x u) : absV u = some x := by
  cases x with
  | non => cases r; rfl
  | bl _ => cases r; rfl
  | int _ => obtain ⟨t, rfl⟩ := r; rfl
  | str _ => obtain ⟨t, rfl⟩ := r; rfl
  | byt _ => obtain ⟨t, rfl⟩ := r; rfl
  | flt _ => obtain ⟨t, rfl⟩ := r; rfl
  | ref _ => cases r; rfl
  | ty _ => cases r; rfl
theorem RelV.inj {x y : V} {u : Value} (r : RelV x u) (q : RelV y u) : x = y := Option.some.inj (r.abs.symm.trans q.abs)
theorem Vals.inj : ∀ {xs ys : List V} {us : List Value}, Vals xs us → Vals ys us → xs = ys
  | _, _, _, .nil, .nil => rfl
  | _, _, _, .cons r t, .cons r' t' => by rw [r.inj r', Vals.inj t t']
section
variable {X : Cx} {pins : List (Addr × Obj)} {σ : St} {H : Hp} {s : Shared} {a : Addr} {xs ys : List V}
theorem SqL.of {K : PySem.W.Frag} (h : H a = some (.lst xs)) : SqL K H a xs := .inl (.inl h)
theorem SqT.of {K : PySem.W.Frag} (h : H a = some (.tup xs)) : SqT K H a xs := .inl (.inl h)
theorem Inv.list (I : Inv X pins σ H s) (h : SqL X.K H a xs) : ∃ its : List Value, Vals xs its ∧ PlainL s.heap a its.toArray ∧ xs.length ≤ sizeLine := by
  rcases h with h | ⟨o, its, n, hk, hc, hd, hs, hz, r⟩
  · obtain ⟨z, its, n, r, e⟩ := h.ok I.hok
    exact ⟨its, r, ⟨_, n, e, rfl, rfl, rfl⟩, z⟩
  · refine ⟨its.toList, r, ⟨o, n, I.kIn a o hk, hc, hd, by simpa using hs⟩, ?_⟩
    have e := r.length
    simp only [Array.length_toList] at e
    omega
theorem Inv.tuple (I : Inv X pins σ H s) (h : SqT X.K H a xs) : ∃ its : List Value, Vals xs its ∧ IsTup s.heap a its.toArray ∧ xs.length ≤ sizeLine := by
  rcases h with h | ⟨o, its, n, hk, hc, hs, hz, r⟩
  · obtain ⟨z, its, r, p⟩ := h.ok I.hok
    exact ⟨its, r, p, z⟩
  · refine ⟨its.toList, r, ⟨o, I.kIn a o hk, hc, n, by simpa using hs⟩, ?_⟩
    have e := r.length
    simp only [Array.length_toList] at e
    omega
theorem Inv.list_inj (I : Inv X pins σ H s) (h : SqL X.K H a xs) (h' : SqL X.K H a ys) : xs = ys := by
  obtain ⟨its, r, ⟨o, n, e, _, _, d⟩, _⟩ := I.list h
  obtain ⟨its', r', ⟨o', n', e', _, _, d'⟩, _⟩ := I.list h'
  rw [e] at e'; cases e'
  rw [d] at d'
  injection d' with d1 _
  have : its = its' := by simpa using congrArg Array.toList d1
  subst this
  exact r.inj r'
theorem Inv.tuple_inj (I : Inv X pins σ H s) (h : SqT X.K H a xs) (h' : SqT X.K H a ys) : xs = ys := by
  obtain ⟨its, r, ⟨o, e, _, n, d⟩, _⟩ := I.tuple h
  obtain ⟨its', r', ⟨o', e', _, n', d'⟩, _⟩ := I.tuple h'
  rw [e] at e'; cases e'
  rw [d] at d'
  injection d' with d1 _
  have : its = its' := by simpa using congrArg Array.toList d1
  subst this
  exact r.inj r'
end

/-! ### another wish about exceptions -/
abbrev Cx.wish (X : Cx) (E : Value → Shared → Prop) : Cx := { X with xe := E }
/-- no exception leaves -/
abbrev Cx.nox (X : Cx) : Cx := X.wish fun _ _ => False
theorem Cx.Ok.wish {X : Cx} (ok : X.Ok) (E : Value → Shared → Prop) : (X.wish E).Ok :=
  ⟨ok.mod, ok.kind, ok.glob, ok.blt, ok.above, ok.inj, ok.has, ok.cab, ok.hd, ok.frames, ok.stk, ok.exf, ok.bs, ok.bsz, ok.noex, ok.exfs, ok.funs, ok.frf⟩
theorem Cx.Ok.unwish {X : Cx} {E : Value → Shared → Prop} (ok : (X.wish E).Ok) : X.Ok :=
  ⟨ok.mod, ok.kind, ok.glob, ok.blt, ok.above, ok.inj, ok.has, ok.cab, ok.hd, ok.frames, ok.stk, ok.exf, ok.bs, ok.bsz, ok.noex, ok.exfs, ok.funs, ok.frf⟩
section
variable {X : Cx} {pins : List (Addr × Obj)} {σ : St} {H : Hp} {s : Shared} {E : Value → Shared → Prop}
theorem Inv.wish (I : Inv X pins σ H s) (E : Value → Shared → Prop) : Inv (X.wish E) pins σ H s := ⟨I.ok.wish E, I.os, I.bare, I.base, I.loc, I.cell, I.free, I.freeC, I.pin, I.hok, I.len⟩
theorem Inv.unwish (I : Inv (X.wish E) pins σ H s) : Inv X pins σ H s := ⟨I.ok.unwish, I.os, I.bare, I.base, I.loc, I.cell, I.free, I.freeC, I.pin, I.hok, I.len⟩
theorem SP.unwish {D : Ends} {f : Flow} {s' : Shared} (h : SP (X.wish E) pins D f s') : SP X pins D f s' := by
  cases f with
  | next => obtain ⟨σ', H', I, q⟩ := h; exact ⟨σ', H', I.unwish, q⟩
  | brk => obtain ⟨σ', H', I, q⟩ := h; exact ⟨σ', H', I.unwish, q⟩
  | cont => obtain ⟨σ', H', I, q⟩ := h; exact ⟨σ', H', I.unwish, q⟩
  | ret u => obtain ⟨v, σ', H', I, r, q⟩ := h; exact ⟨v, σ', H', I.unwish, r, q⟩
theorem PE.nox {e : Expr} {t : TE} (h : PE X.nox e t) : PE X e t := fun pins s σ H Q I hw =>
  wpAny_mono (h pins s σ H Q (I.wish _) hw) (fun _ _ ⟨v, H', I', r, q⟩ => ⟨v, H', I'.unwish, r, q⟩) fun _ _ z => False.elim z
theorem PT.nox {e : Expr} {t : TT} (h : PT X.nox e t) : PT X e t := fun pins s σ H Q I hw =>
  wpAny_mono (h pins s σ H Q (I.wish _) hw) (fun _ _ ⟨H', I', q⟩ => ⟨H', I'.unwish, q⟩) fun _ _ z => False.elim z
theorem PSs.nox {st : List Stmt} {t : TS} (h : PSs X.nox st t) : PSs X st t := fun pins s σ H D I hw =>
  wpAny_mono (h pins s σ H D (I.wish _) hw) (fun _ _ q => q.unwish) fun _ _ z => False.elim z
end

/-! ### blocks and small statements -/
section
variable {X : Cx} {st : Stmt} {rest : List Stmt} {t u : TS} {e : Expr} {te : TE} {pos : Pos}
def tNext : TS := fun D σ H => D.nx σ H
def tSeq (t u : TS) : TS := fun D σ H => t { D with nx := u D } σ H
theorem pss_nil : PSs X [] tNext := fun _ _ σ H _ I h => wpAny_execs_nil ⟨σ, H, I, h⟩
theorem pss_cons (h1 : PS X st t) (h2 : PSs X rest u) : PSs X (st :: rest) (tSeq t u) := by
  intro pins s σ H D I h
  refine wpAny_execs_cons (thn (h1 pins s σ H { D with nx := u D } I h) fun f s1 q => ?_)
  cases f with
  | next =>
    obtain ⟨σ', H', I', q⟩ := q
    exact h2 pins s1 σ' H' D I' q
  | ret v => exact q
  | brk => exact q
  | cont => exact q
theorem pss_one (h1 : PS X st t) : PSs X [st] t := by
  intro pins s σ H D I h
  refine wpAny_execs_cons (thn (h1 pins s σ H D I h) fun f s1 q => ?_)
  cases f with
  | next => exact wpAny_execs_nil q
  | ret v => exact q
  | brk => exact q
  | cont => exact q
/-- in a def's body nothing is shown -/
theorem Inv.quiet {pins : List (Addr × Obj)} {σ : St} {H : Hp} {s : Shared} (I : Inv X pins σ H s) : interactive X.env = false := by simp [interactive, I.ok.kind]
/-- an expression whose value is dropped -/
def tDrop (te : TE) : TS := fun D σ H => te σ H fun _ H1 => D.nx σ H1
theorem ps_expr (he : PE X e te) (hs : swapsWith e none pos.line X.env = pure false := by rfl) : PS X (.Expr e pos) (tDrop te) := by
  intro pins s σ H D I h
  exact wpAny_Expr_any (thn (he pins s σ H _ I h) fun v s1 ⟨x, H1, I1, r1, q1⟩ => ⟨σ, H1, I1, q1⟩) I.quiet hs
def tRet (te : TE) : TS := fun D σ H => te σ H D.rt
theorem ps_ret (he : PE X e te) : PS X (.Return (some e) pos) (tRet te) := by
  intro pins s σ H D I h
  exact wpAny_Return_some (thn (he pins s σ H _ I h) fun v s1 ⟨x, H1, I1, r1, q1⟩ => ⟨x, σ, H1, I1, r1, q1⟩)
def tIfS (c : TT) (t u : TS) : TS := fun D σ H => c σ H fun b H1 => if b = true then t D σ H1 else u D σ H1
theorem ps_if {c : Expr} {a b : List Stmt} {tc : TT} (hc : PT X c tc) (ha : PSs X a t) (hb : PSs X b u) : PS X (.If c a b pos) (tIfS tc t u) := by
  intro pins s σ H D I h
  refine wpAny_If (thn (hc pins s σ H _ I h) fun d s1 ⟨H1, I1, q1⟩ => ?_)
  cases d with
  | true => exact ha pins s1 σ H1 D I1 q1
  | false => exact hb pins s1 σ H1 D I1 q1
end

/-! ### targets -/
abbrev TG := V → St → Hp → (St → Hp → Prop) → Prop
abbrev TGs := List V → St → Hp → (St → Hp → Prop) → Prop
def PG (X : Cx) (target : Expr) (t : TG) : Prop :=
  ∀ (pins : List (Addr × Obj)) (s : Shared) (σ : St) (H : Hp) (v : V) (u : Value) (Q : St → Hp → Prop), Inv X pins σ H s → RelV v u → t v σ H Q →
    wpAny (model X.prog X.w) X.A (assign target X.env u) (fun _ s' => ∃ σ' H', Inv X pins σ' H' s' ∧ Q σ' H') X.xe s
/-- several targets, one after another -/
def PGs (X : Cx) (ts : List Expr) (t : TGs) : Prop :=
  ∀ (pins : List (Addr × Obj)) (s : Shared) (σ : St) (H : Hp) (vs : List V) (us : List Value) (Q : St → Hp → Prop), Inv X pins σ H s → Vals vs us → t vs σ H Q →
    wpAny (model X.prog X.w) X.A (assignInOrder ((assignEach ts X.env).map (·.2)) us) (fun _ s' => ∃ σ' H', Inv X pins σ' H' s' ∧ Q σ' H') X.xe s
section
variable {X : Cx} {pos : Pos}
def gName (i : Nat) : TG := fun v σ H Q => Q (σ.set i (some v)) H
theorem pg_name {i : Nat} {x : Str} (hN : X.N.Nodup) (hi : X.N[i]? = some x) (hx : Loc X.env.scope x) (hf : X.fn x = true ∨ X.env.scope.names.lookup x = some .local := by first | exact .inl rfl | exact .inr rfl | assumption) : PG X (.Name x pos) (gName i) := by
  intro pins s σ H v u Q I r h
  exact wpAny_assign_Name (store_ok I hN hi hx r (fun s' I' => ⟨_, H, I', h⟩) hf)
def gNil : TGs := fun vs σ H Q => vs = [] ∧ Q σ H
def gCons (t : TG) (u : TGs) : TGs := fun vs σ H Q => ∃ v r, vs = v :: r ∧ t v σ H fun σ' H' => u r σ' H' Q
theorem pgs_nil : PGs X [] gNil := by
  intro pins s σ H vs us Q I r h
  obtain ⟨e, h⟩ := h
  subst e
  cases r
  exact assignInOrder_nil ⟨σ, H, I, h⟩
theorem pgs_cons {e : Expr} {es : List Expr} {t : TG} {u : TGs} (h1 : PG X e t) (h2 : PGs X es u)
    (hs : (assignEach (e :: es) X.env).map (·.2) = assign e X.env :: (assignEach es X.env).map (·.2) := by rfl) : PGs X (e :: es) (gCons t u) := by
  intro pins s σ H vs us Q I r h
  obtain ⟨v, vr, e1, h⟩ := h
  subst e1
  cases r with
  | cons r rr =>
    rw [hs]
    refine assignInOrder_cons (thn (h1 pins s σ H _ _ _ I r h) fun _ s1 ⟨σ1, H1, I1, q1⟩ => ?_)
    exact h2 pins s1 σ1 H1 _ _ Q I1 rr q1
/-- (a, b, ..) = a tuple of that length -/
def gTup (K : PySem.W.Frag) (n : Nat) (t : TGs) : TG := fun v σ H Q => ∃ a xs, v = .ref a ∧ SqT K H a xs ∧ xs.length = n ∧ t xs σ H Q
theorem pg_tup {es : List Expr} {k : Nat} {t : TGs} {n : Nat} (hc : X.calm = true) (h : PGs X es t)
    (hn : (assignEach es X.env).length = n := by rfl) (hst : (assignEach es X.env).findIdx? (·.1) = none := by rfl) : PG X (.Tuple es k pos) (gTup X.K n t) := by
  intro pins s σ H v u Q I r hw
  obtain ⟨a, xs, e1, hq, hl, hw⟩ := hw
  subst e1
  cases r
  obtain ⟨its, rv, ht, hz⟩ := I.tuple hq
  refine assign_Tuple_tuple (I.ok.hd hc) ht (by simp [hn, ← hl, rv.length]) hst fun h' hx => ?_
  have I1 : Inv X pins σ H { s with heap := h' } := I.kept (t' := s.toks) fun b o e => hx b o (Nat.ne_of_lt (Heap.lt_size e)) e
  exact h pins _ σ H xs _ Q I1 (by simpa using rv) hw
/-- target = value -/
def tAsg (te : TE) (g : TG) : TS := fun D σ H => te σ H fun x H1 => g x σ H1 D.nx
/-- name = value -/
theorem ps_set {i : Nat} {x : Str} {e : Expr} {te : TE} {pos' : Pos} (hN : X.N.Nodup) (hi : X.N[i]? = some x) (hx : Loc X.env.scope x) (he : PE X e te) (hs : swapsWith e (some (.Name x pos')) pos.line X.env = pure false := by rfl) (hf : X.fn x = true ∨ X.env.scope.names.lookup x = some .local := by first | exact .inl rfl | exact .inr rfl | assumption) :
    PS X (.Assign [.Name x pos'] e pos) (tAsg te (gName i)) := by
  intro pins s σ H D I h
  refine wpAny_Assign_Name (thn (he pins s σ H _ I h) fun v s1 ⟨y, H1, I1, r1, q1⟩ => ?_) hs
  exact store_ok I1 hN hi hx r1 (fun s2 I2 => ⟨_, H1, I2, q1⟩) hf
end

/-! ### while -/
section
variable {X : Cx} {pos : Pos}
end

/-! ### what a loop or a comprehension walks -/
/-- at turn i: it yields x (the heap may grow), or it stops -/
structure It where
  go : Nat → Hp → Prop
  yld : Nat → Hp → V → Hp → Prop
  stop : Nat → Hp → Prop
/-- the iterator's own objects may turn: they are not the frame's, not pinned, younger than the entry (or a comprehension's own) -/
def FpOk (X : Cx) (pins : List (Addr × Obj)) (H : Hp) (b : Addr) : Prop :=
  H b = none ∧ b ≠ X.env.locals ∧ b ∉ X.fs ∧ (b ∈ X.ex ∨ X.s₀.heap.objs.size ≤ b) ∧ (∀ x c, X.env.cells.lookup x = some c → c ≠ b) ∧ ∀ p ∈ X.pn ++ pins, p.1 ≠ b
theorem Inv.fpOk {X : Cx} {pins : List (Addr × Obj)} {σ : St} {H H' : Hp} {s : Shared} {b : Addr} (I : Inv X pins σ H s) (hb : s.heap.objs.size ≤ b) (hn : H' b = none) : FpOk X pins H' b := by
  refine ⟨hn, Nat.ne_of_gt (Nat.lt_of_lt_of_le I.lt hb), I.nofs hb, .inr (Nat.le_trans I.sz hb), fun x c e z => ?_, fun p hp z => ?_⟩
  · obtain ⟨v, q⟩ := I.cell x c e
    exact absurd (Nat.lt_of_lt_of_le q.lt (by rw [z]; exact hb)) (Nat.lt_irrefl _)
  · exact absurd (Nat.lt_of_lt_of_le (Heap.lt_size (I.pin p hp).1) (by rw [z]; exact hb)) (Nat.lt_irrefl _)
structure Turn (P : Program) (w : World) (K : PySem.W.Frag) (tg : Expr) (J : It) (fp : List Addr) (it : Addr) (tn : Nat → Heap → Prop) : Prop where
  mem : it ∈ fp
  obj : ∀ i h, tn i h → ∀ b ∈ fp, ∃ o, h.get? b = some o ∧ ∀ v, o.data ≠ .cell v
  keep : ∀ i h h', tn i h → (∀ b ∈ fp, ∀ o, h.get? b = some o → h'.get? b = some o) → tn i h'
  item : ∀ (X : Cx), X.prog = P → X.w = w → X.K = K → X.calm = true → ∀ (i : Nat) (pins : List (Addr × Obj)) (s : Shared) (σ : St) (H : Hp) (E : Value → Shared → Prop), Inv X pins σ H s → (∀ b ∈ fp, FpOk X pins H b) → tn i s.heap → J.go i H →
    wpAny (model P w) X.A (pyNext (.ref it)) (fun r s1 => ∃ u, r = some u ∧
      wpAny (model P w) X.A (letOwnedTupleGo tg (.ref it) u) (fun _ s2 => ∃ x H', Inv X pins σ H' s2 ∧ RelV x u ∧ J.yld i H x H' ∧ tn (i + 1) s2.heap ∧ ∀ b ∈ fp, H' b = none) E s1) E s
  done : ∀ (X : Cx), X.prog = P → X.w = w → X.K = K → X.calm = true → ∀ (i : Nat) (pins : List (Addr × Obj)) (s : Shared) (σ : St) (H : Hp) (E : Value → Shared → Prop), Inv X pins σ H s → (∀ b ∈ fp, FpOk X pins H b) → tn i s.heap → J.stop i H →
    wpAny (model P w) X.A (pyNext (.ref it)) (fun r s1 => r = none ∧ Inv X pins σ H s1) E s
  self : ∀ (A : Around) (i : Nat) (s : Shared) (Q : Value → Shared → Prop) (E : Value → Shared → Prop), tn i s.heap → Q (.ref it) s → wpAny (model P w) A (pyIter (.ref it)) Q E s
abbrev TI := St → Hp → (It → Hp → Prop) → Prop
/-- an iterator has come -/
def PIE (X : Cx) (pins : List (Addr × Obj)) (σ : St) (tg : Expr) (R : It → Hp → Prop) (itv : Value) (s2 : Shared) : Prop :=
  ∃ (it : Addr) (fp : List Addr) (tn : Nat → Heap → Prop) (J : It) (H' : Hp), itv = .ref it ∧ Inv X pins σ H' s2 ∧ Turn X.prog X.w X.K tg J fp it tn ∧ tn 0 s2.heap ∧ (∀ b ∈ fp, FpOk X pins H' b) ∧ R J H'
def PI (X : Cx) (tg iter : Expr) (wi : TI) : Prop :=
  ∀ (pins : List (Addr × Obj)) (s : Shared) (σ : St) (H : Hp) (R : It → Hp → Prop), Inv X pins σ H s → wi σ H R →
    wpAny (model X.prog X.w) X.A (eval iter X.env) (fun v s1 => wpAny (model X.prog X.w) X.A (pyIter v) (PIE X pins σ tg R) X.xe s1) X.xe s

/-- the step ahead of the store is nothing for an iterator that keeps no tuple -/
theorem go_of {M : Model} {A : Around} {E : Value → Shared → Prop} {s : Shared} {tg : Expr} {it : Addr} {u : Value} {o : Obj} {n : String} {vs : Array Value} {Q : Unit → Shared → Prop} (ho : s.heap.get? it = some o) (hc : o.cls = .type n) (hd : o.data = .fields vs)
    (hn : ["enumerate", "zip", "dict_itemiterator", "dict_reverseitemiterator", "odict_iterator", "itertools.zip_longest", "itertools.pairwise"].contains n = false) (hQ : Q () s) : wpAny M A (letOwnedTupleGo tg (.ref it) u) Q E s := by
  unfold letOwnedTupleGo
  cases tg <;> first
    | exact wpAny_pure hQ
    | (cases u <;> first
        | exact wpAny_pure hQ
        | (refine wpAny_bind (wpAny_load ho ?_)
           rw [hc, hd]
           show wpAny M A (if (["enumerate", "zip", "dict_itemiterator", "dict_reverseitemiterator", "odict_iterator", "itertools.zip_longest", "itertools.pairwise"].contains n && vs[0]? == some (rawInt _)) = true then _ else _) Q E s
           rw [if_neg (by intro h; rw [hn, Bool.false_and] at h; cases h)]
           exact wpAny_pure hQ))

/-- the list at a, as it stands at each turn (a loop may append to it) -/
def Itl (K : PySem.W.Frag) (a : Addr) : It :=
  ⟨fun i H => ∃ xs x, SqL K H a xs ∧ xs[i]? = some x, fun i H x H' => H' = H ∧ ∀ xs, SqL K H a xs → xs[i]? = some x, fun i H => ∃ xs, SqL K H a xs ∧ xs.length ≤ i⟩
/-- lo, lo + 1, .. (n of them) -/
def Itr (lo : Int) (n : Nat) : It := ⟨fun i _ => i < n, fun i H x H' => H' = H ∧ x = .int (lo + i), fun i _ => n ≤ i⟩
theorem turn_list {P : Program} {w : World} {K : PySem.W.Frag} {tg : Expr} (a it : Addr) : Turn P w K tg (Itl K a) [it] it (fun i h => h.IsListIter it a i) where
  mem := by simp
  obj := fun i h st b hb => by
    have e : b = it := by simpa using hb
    subst e
    obtain ⟨o, e, c, d⟩ := st
    exact ⟨o, e, fun v z => by rw [d] at z; cases z⟩
  keep := fun i h h' st k => st.at fun o e => k it (by simp) o e
  item := by
    intro X hP hw hK hc i pins s σ H E I hf st hg
    subst hP hw hK
    obtain ⟨xs, x, hq, hx⟩ := hg
    obtain ⟨its, rv, p, hz⟩ := I.list hq
    obtain ⟨u, hu, ru⟩ := rv.get hx
    obtain ⟨f0, f1, f2, f3, f4, f5⟩ := hf it (by simp)
    refine wpAny_pyNext_list_item st p.isList (x := u) (by simpa using hu) fun h' st' sb => ?_
    have I1 : Inv X pins σ H { s with heap := h' } := I.turned (t' := s.toks) (fun b o hb e => (sb.2 b hb).trans e) f0 f1 f3 f4 f5
    obtain ⟨o, e, c, d⟩ := id st'
    exact ⟨u, rfl, go_of (s := { s with heap := h' }) e c d (by decide) ⟨x, H, I1, ru, ⟨rfl, fun ys hy => by rw [I.list_inj hy hq]; exact hx⟩, st', fun b hb => (hf b hb).1⟩⟩
  done := by
    intro X hP hw hK hc i pins s σ H E I hf st hg
    subst hP hw hK
    obtain ⟨xs, hq, hx⟩ := hg
    obtain ⟨its, rv, p, hz⟩ := I.list hq
    obtain ⟨f0, f1, f2, f3, f4, f5⟩ := hf it (by simp)
    have hl := rv.length
    exact wpAny_pyNext_list_end (I.ok.hd hc) st p.isList (by simp; omega) fun h' eb => ⟨rfl, I.turned (t' := s.toks) (fun b o hb e => eb b o hb e) f0 f1 f3 f4 f5⟩
  self := fun _ _ _ _ _ st h => wpAny_pyIter_listiter st h
theorem turn_range {P : Program} {w : World} {K : PySem.W.Frag} {tg : Expr} (it : Addr) (lo : Int) (n : Nat) : Turn P w K tg (Itr lo n) [it] it (fun i h => IsRangeIter h it (lo + (i : Nat) * 1) ((n : Int) - (i : Nat)) 1) where
  mem := by simp
  obj := fun i h st b hb => by
    have e : b = it := by simpa using hb
    subst e
    exact ⟨_, st, fun v z => by
      have z' : Data.fields _ = Data.cell v := z
      cases z'⟩
  keep := fun i h h' st k => k it (by simp) _ st
  item := by
    intro X hP hw hK hc i pins s σ H E I hf st hg
    subst hP hw hK
    obtain ⟨f0, f1, f2, f3, f4, f5⟩ := hf it (by simp)
    have W := Walks.range (prog := X.prog) (w := X.w) (I.ok.hd hc) it lo 1 n
    refine W.item i s _ _ hg st fun v h' tk hv st' kk => ?_
    obtain ⟨t, rfl⟩ := hv
    have I1 : Inv X pins σ H { s with heap := h', toks := tk } := I.turned (fun b o hb e => kk b o (by simpa using hb) e) f0 f1 f3 f4 f5
    refine ⟨_, rfl, go_of (s := { s with heap := h', toks := tk }) (n := "range_iterator") st' rfl rfl (by decide) ⟨.int (lo + i), H, I1, ⟨t, ?_⟩, ⟨rfl, rfl⟩, st', fun b hb => (hf b hb).1⟩⟩
    rw [Int.mul_one]
  done := by
    intro X hP hw hK hc i pins s σ H E I hf st hg
    subst hP hw hK
    obtain ⟨f0, f1, f2, f3, f4, f5⟩ := hf it (by simp)
    exact wpAny_pyNext_range_end (I.ok.hd hc) st (by have : n ≤ i := hg; omega) fun h' eb => ⟨rfl, I.turned (t' := s.toks) (fun b o hb e => eb b o hb e) f0 f1 f3 f4 f5⟩
  self := fun _ _ _ _ _ st h => wpAny_pyIter_rangeiter st h
end L2

namespace L2
open PySem PySem.Spec PyProof.Rows
section
variable {X : Cx} {tg : Expr}
def iList (K : PySem.W.Frag) (tl : TE) : TI := fun σ H R => tl σ H fun x H1 => ∃ a, x = .ref a ∧ (∃ xs, SqL K H1 a xs) ∧ R (Itl K a) H1
theorem pi_list {l : Expr} {tl : TE} (hl : PE X l tl) : PI X tg l (iList X.K tl) := by
  intro pins s σ H R I h
  refine thn (hl pins s σ H _ I h) fun v s1 ⟨x, H1, I1, r1, q1⟩ => ?_
  obtain ⟨a, e, ⟨xs, hq⟩, q⟩ := q1
  subst e
  cases r1
  obtain ⟨its, rv, p, hz⟩ := I1.list hq
  refine wpAny_pyIter_list p.isList ?_
  refine ⟨s1.heap.objs.size, [s1.heap.objs.size], _, _, H1, rfl, I1.kept (t' := s1.toks) fun b o e => Heap.get?_push_of_some _ e, turn_list a _, ⟨_, Heap.get?_push_size _ rfl, rfl, rfl⟩, fun b hb => ?_, q⟩
  have e : b = s1.heap.objs.size := by simpa using hb
  subst e
  exact I1.fpOk (Nat.le_refl _) (I1.hok.fresh (Nat.le_refl _))
/-- a range object just made, walked -/
theorem range_it {pins : List (Addr × Obj)} {σ : St} {H : Hp} {s : Shared} {R : It → Hp → Prop} {E : Value → Shared → Prop} {lo hi : Int} {t u v : Tok} {tk : Nat} (I : Inv X pins σ H s) (h1 : -(2 ^ 62) ≤ lo) (h2 : lo < 2 ^ 62) (h3 : -(2 ^ 62) ≤ hi) (h4 : hi < 2 ^ 62)
    (q : R (Itr lo (hi - lo).toNat) H) : wpAny (model X.prog X.w) X.A (pyIter (.ref s.heap.objs.size)) (PIE X pins σ tg R) E { s with heap := s.heap.push { cls := .type "range", data := .fields #[.int lo t, .int hi u, .int 1 v] }, toks := tk } := by
  refine wpAny_pyIter_range (IsRange.new ..) (small_one h1 h2 h3 h4) ?_
  have I1 : Inv X pins σ H { s with heap := s.heap.push { cls := .type "range", data := .fields #[.int lo t, .int hi u, .int 1 v] }, toks := tk } := I.kept fun b o e => Heap.get?_push_of_some _ e
  refine ⟨(s.heap.push { cls := .type "range", data := .fields #[.int lo t, .int hi u, .int 1 v] }).objs.size, [(s.heap.push { cls := .type "range", data := .fields #[.int lo t, .int hi u, .int 1 v] }).objs.size], _, _, H, rfl,
    I1.kept (t' := tk) fun b o e => Heap.get?_push_of_some _ e, turn_range _ lo (hi - lo).toNat, ?_, fun b hb => ?_, q⟩
  · have e1 : lo + ((0 : Nat) : Int) * 1 = lo := by simp
    have e2 : (((hi - lo).toNat : Nat) : Int) - ((0 : Nat) : Int) = Builtin.Range.rangeSize lo hi 1 := by rw [rangeSize_one]; split <;> omega
    show IsRangeIter _ _ (lo + ((0 : Nat) : Int) * 1) ((((hi - lo).toNat : Nat) : Int) - ((0 : Nat) : Int)) 1
    rw [e1, e2]
    exact Heap.get?_push_size _ rfl
  · have e : b = (s.heap.push { cls := .type "range", data := .fields #[.int lo t, .int hi u, .int 1 v] }).objs.size := by simpa using hb
    subst e
    exact I1.fpOk (Nat.le_refl _) (I1.hok.fresh (Nat.le_refl _))
def iRng1 (ta : TA) : TI := fun σ H R => ta σ H fun vs H1 => ∃ j : Int, vs = [.int j] ∧ -(2 ^ 62) ≤ j ∧ j < 2 ^ 62 ∧ R (Itr 0 j.toNat) H1
def iRng2 (ta : TA) : TI := fun σ H R => ta σ H fun vs H1 => ∃ i j : Int, vs = [.int i, .int j] ∧ (-(2 ^ 62) ≤ i ∧ i < 2 ^ 62 ∧ -(2 ^ 62) ≤ j ∧ j < 2 ^ 62) ∧ R (Itr i (j - i).toNat) H1
theorem pi_range1 {a : Expr} {ta : TA} {p pos : Pos} (hg : Gl X "range") (hm : X.mg "range" = none) (ha : PA X [a] ta) (hs : starEach [a] X.env = [(false, eval a X.env)] := by rfl) : PI X tg (.Call (.Name "range" p) [a] [] pos) (iRng1 ta) := by
  intro pins s σ H R I h
  refine Call_ (ld_blt I hg hm boot_range (PyProof.Rows.callWith_type1 (thn (ha pos pins s σ H _ I h) fun us s1 ⟨vs, H1, I1, r1, q1⟩ => ?_) hs rfl))
  obtain ⟨j, e, q1, q2, q⟩ := q1
  subst e
  cases r1 with
  | cons r rr =>
    cases rr
    obtain ⟨t, rfl⟩ := r
    exact call_range_1 (range_it I1 (by omega) (by omega) q1 q2 (by simpa using q))
theorem pi_range2 {a b : Expr} {ta : TA} {p pos : Pos} (hg : Gl X "range") (hm : X.mg "range" = none) (ha : PA X [a, b] ta) (hs : starEach [a, b] X.env = [(false, eval a X.env), (false, eval b X.env)] := by rfl) (hs2 : starEach [b] X.env = [(false, eval b X.env)] := by rfl) :
    PI X tg (.Call (.Name "range" p) [a, b] [] pos) (iRng2 ta) := by
  intro pins s σ H R I h
  refine Call_ (ld_blt I hg hm boot_range (PyProof.Rows.callWith_type1 (thn (ha pos pins s σ H _ I h) fun us s1 ⟨vs, H1, I1, r1, q1⟩ => ?_) (by rw [hs, hs2]) (by rw [hs2]; rfl)))
  obtain ⟨i, j, e, ⟨q1, q2, q3, q4⟩, q⟩ := q1
  subst e
  cases r1 with
  | cons r rr =>
    cases rr with
    | cons r' rr =>
      cases rr
      obtain ⟨t, rfl⟩ := r
      obtain ⟨t', rfl⟩ := r'
      exact call_range_2 (range_it I1 q1 q2 q3 q4 q)

/-! ### for -/
/-- W: the invariant by the turn and a measure; N: what the body is to reach -/
def tFor (wi : TI) (g : TG) (tb : TS) : TS := fun D σ H => wi σ H fun J H1 => ∃ W : Nat → Nat → St → Hp → Prop, (∃ m, W 0 m σ H1) ∧ ∀ i m σ H, W i m σ H →
  (J.stop i H ∧ D.nx σ H) ∨ (J.go i H ∧ ∃ N : St → Hp → Prop, (∀ σ' H', N σ' H' → ∃ m', m' < m ∧ W (i + 1) m' σ' H') ∧ ∀ x H', J.yld i H x H' → g x σ H' fun σ2 H2 => tb { D with nx := N, ct := N, bk := D.nx } σ2 H2)
/-- the records at fp as they stand -/
def pinsAt (fp : List Addr) (h : Heap) : List (Addr × Obj) := fp.filterMap fun b => (h.get? b).map fun o => (b, o)
theorem mem_pinsAt {fp : List Addr} {h : Heap} {b : Addr} {o : Obj} (hb : b ∈ fp) (e : h.get? b = some o) : (b, o) ∈ pinsAt fp h := List.mem_filterMap.mpr ⟨b, hb, by rw [e]; rfl⟩
theorem of_pinsAt {fp : List Addr} {h : Heap} {p : Addr × Obj} (hp : p ∈ pinsAt fp h) : p.1 ∈ fp ∧ h.get? p.1 = some p.2 := by
  obtain ⟨b, hb, e⟩ := List.mem_filterMap.mp hp
  cases q : h.get? b with
  | none => rw [q] at e; cases e
  | some o =>
    rw [q] at e
    have e' : (b, o) = p := Option.some.inj e
    subst e'
    exact ⟨hb, q⟩
theorem Inv.pinned {pins : List (Addr × Obj)} {σ : St} {H : Hp} {s : Shared} {fp : List Addr} (I : Inv X pins σ H s) (hf : ∀ b ∈ fp, FpOk X pins H b) (ho : ∀ b ∈ fp, ∃ o, s.heap.get? b = some o ∧ ∀ v, o.data ≠ .cell v) : Inv X (pins ++ pinsAt fp s.heap) σ H s :=
  I.pins_of fun p hp => (List.mem_append.mp hp).elim (fun z => I.pin p (List.mem_append_right _ z)) fun z => by
    obtain ⟨hb, e⟩ := of_pinsAt z
    obtain ⟨f0, f1, f2, _⟩ := hf p.1 hb
    obtain ⟨o, e', d⟩ := ho p.1 hb
    rw [e] at e'; cases e'
    exact ⟨e, f0, f1, f2, d⟩
theorem Inv.unpinned {pins pl : List (Addr × Obj)} {σ : St} {H : Hp} {s : Shared} (I : Inv X (pins ++ pl) σ H s) : Inv X pins σ H s := I.pins_of fun p hp => I.pin p (List.mem_append_right _ (List.mem_append_left _ hp))
theorem ps_for {iter : Expr} {body : List Stmt} {wi : TI} {g : TG} {tb : TS} {pos : Pos} (hp : PassesOwn (model X.prog X.w) X.A X.env X.xe) (hc : X.calm = true) (hi : PI X tg iter wi) (hg : PG X tg g) (hb : PSs X body tb)
    (hs : ∀ x, foldedSetIterable iter X.env x = pure x := by intro _; rfl) : PS X (.For tg iter body [] pos) (tFor wi g tb) := by
  intro pins s σ H D I h
  refine wpAny_For (thn (hi pins s σ H _ I h) fun v s1 h1 => thn h1 fun itv s2 h2 => ?_) hs
  obtain ⟨it, fp, tn, J, H2, e, I2, T, st2, f2, W, ⟨m0, w0⟩, turn⟩ := h2
  subst e
  -- what stays true of the iterator's objects through the loop
  have stat : ∀ {H' : Hp}, (∀ b ∈ fp, H' b = none) → ∀ b ∈ fp, FpOk X pins H' b := fun hn b hb => ⟨hn b hb, (f2 b hb).2⟩
  refine codeAny_forLoop_any (fun n s' => ∃ i σ' H', Inv X pins σ' H' s' ∧ tn i s'.heap ∧ (∀ b ∈ fp, H' b = none) ∧ W i n σ' H') ?_ m0 ⟨0, σ, H2, I2, st2, fun b hb => (f2 b hb).1, w0⟩
  rintro n s3 ⟨i, σ3, H3, I3, st3, fr3, w3⟩
  rcases turn i n σ3 H3 w3 with ⟨stop, qn⟩ | ⟨go, N, hN, step⟩
  · refine wpAny_passesOwn hp (thn (T.done X rfl rfl rfl hc i pins s3 σ3 H3 X.xe I3 (stat fr3) st3 stop) fun r s4 ⟨hr, I4⟩ => ?_)
    subst hr
    exact wpAny_execs_nil ⟨σ3, H3, I4, qn⟩
  · refine wpAny_passesOwn hp (thn (T.item X rfl rfl rfl hc i pins s3 σ3 H3 X.xe I3 (stat fr3) st3 go) fun r s4 ⟨u, hr, h4⟩ => ?_)
    subst hr
    refine wpAny_passesOwn hp (thn h4 fun _ s5 ⟨x, H5, I5, r5, y5, st5, fr5⟩ => ?_)
    have I5' := I5.pinned (stat fr5) (T.obj _ _ st5)
    refine wpAny_passesOwn hp (thn (hg _ s5 σ3 H5 x u _ I5' r5 (step x H5 y5)) fun _ s6 ⟨σ6, H6, I6, q6⟩ => ?_)
    refine wpAny_passesOwn hp (thn (hb _ s6 σ6 H6 _ I6 q6) fun f s7 q7 => ?_)
    have again : ∀ {σ7 : St} {H7 : Hp}, Inv X (pins ++ pinsAt fp s5.heap) σ7 H7 s7 → N σ7 H7 → ∃ m, m < n ∧ ∃ i σ' H', Inv X pins σ' H' s7 ∧ tn i s7.heap ∧ (∀ b ∈ fp, H' b = none) ∧ W i m σ' H' := fun {σ7 H7} I7 n7 => by
      obtain ⟨m', hm, w7⟩ := hN σ7 H7 n7
      refine ⟨m', hm, i + 1, σ7, H7, I7.unpinned, T.keep _ _ _ st5 fun b hb o e => (I7.pin (b, o) (List.mem_append_right _ (List.mem_append_right _ (mem_pinsAt hb e)))).1, fun b hb => ?_, w7⟩
      obtain ⟨o, e, d⟩ := T.obj _ _ st5 b hb
      exact (I7.pin (b, o) (List.mem_append_right _ (List.mem_append_right _ (mem_pinsAt hb e)))).2.1
    cases f with
    | next => obtain ⟨σ7, H7, I7, n7⟩ := q7; exact again I7 n7
    | cont => obtain ⟨σ7, H7, I7, n7⟩ := q7; exact again I7 n7
    | brk => obtain ⟨σ7, H7, I7, q7⟩ := q7; exact ⟨σ7, H7, I7.unpinned, q7⟩
    | ret v => obtain ⟨x7, σ7, H7, I7, r7, q7⟩ := q7; exact ⟨x7, σ7, H7, I7.unpinned, r7, q7⟩
end

/-! ### the forms one uses -/
theorem for_range {lo : Int} {n : Nat} {g : TG} {tb : TS} {D : Ends} {σ : St} {H : Hp} (Pv : Nat → St → Hp → Prop) (h0 : Pv 0 σ H)
    (hs : ∀ i σ H, i < n → Pv i σ H → g (.int (lo + i)) σ H fun σ2 H2 => tb { D with nx := Pv (i + 1), ct := Pv (i + 1), bk := D.nx } σ2 H2) (hd : ∀ σ H, Pv n σ H → D.nx σ H) :
    ∃ W : Nat → Nat → St → Hp → Prop, (∃ m, W 0 m σ H) ∧ ∀ i m σ H, W i m σ H →
      ((Itr lo n).stop i H ∧ D.nx σ H) ∨ ((Itr lo n).go i H ∧ ∃ N : St → Hp → Prop, (∀ σ' H', N σ' H' → ∃ m', m' < m ∧ W (i + 1) m' σ' H') ∧ ∀ x H', (Itr lo n).yld i H x H' → g x σ H' fun σ2 H2 => tb { D with nx := N, ct := N, bk := D.nx } σ2 H2) := by
  refine ⟨fun i m σ H => m = n - i ∧ i ≤ n ∧ Pv i σ H, ⟨n, by simp, Nat.zero_le _, h0⟩, ?_⟩
  rintro i m σ H ⟨rfl, hi, p⟩
  by_cases hlt : i < n
  · refine .inr ⟨hlt, Pv (i + 1), fun σ' H' p' => ⟨n - (i + 1), by omega, rfl, hlt, p'⟩, fun x H' y => ?_⟩
    obtain ⟨e, y⟩ := y
    subst e y
    exact hs i σ _ hlt p
  · have e : i = n := by omega
    subst e
    exact .inl ⟨Nat.le_refl _, hd σ H p⟩
end L2

namespace L2
open PySem PySem.Spec PyProof.Rows

abbrev R2 := V → V → Hp → VK → Prop
/-- a two-place operation on values: f is binaryOp op, inplaceOp op or compareOp op -/
def OpR (X : Cx) (f : Value → Value → Sem Value) (r : R2) : Prop :=
  ∀ (pins : List (Addr × Obj)) (s : Shared) (σ : St) (H : Hp) (x y : V) (v u : Value) (Q : VK), Inv X pins σ H s → RelV x v → RelV y u → r x y H Q →
    wpAny (model X.prog X.w) X.A (f v u) (EP X pins σ Q) X.xe s
/-- a one-place operation -/
def UnR (X : Cx) (f : Value → Sem Value) (r : V → Hp → VK → Prop) : Prop :=
  ∀ (pins : List (Addr × Obj)) (s : Shared) (σ : St) (H : Hp) (x : V) (v : Value) (Q : VK), Inv X pins σ H s → RelV x v → r x H Q →
    wpAny (model X.prog X.w) X.A (f v) (EP X pins σ Q) X.xe s
/-- a call of a value that is known (a builtin, a type) with values -/
def CallR (X : Cx) (f : Value) (r : List V → Hp → VK → Prop) : Prop :=
  ∀ (pins : List (Addr × Obj)) (s : Shared) (σ : St) (H : Hp) (xs : List V) (us : List Value) (Q : VK), Inv X pins σ H s → Vals xs us → r xs H Q →
    wpAny (model X.prog X.w) X.A (call f us) (EP X pins σ Q) X.xe s
def tOp (r : R2) (ta tb : TE) : TE := fun σ H Q => ta σ H fun x H1 => tb σ H1 fun y H2 => r x y H2 Q
def tUn (r : V → Hp → VK → Prop) (ta : TE) : TE := fun σ H Q => ta σ H fun x H1 => r x H1 Q
/-- ints in, under C, and a value out -/
def rI (C : Int → Int → Prop) (g : Int → Int → V) : R2 := fun x y H Q => ∃ i j, x = .int i ∧ y = .int j ∧ C i j ∧ Q (g i j) H
def rI0 (g : Int → Int → V) : R2 := fun x y H Q => ∃ i j, x = .int i ∧ y = .int j ∧ Q (g i j) H
def rU (g : Int → V) : V → Hp → VK → Prop := fun x H Q => ∃ i, x = .int i ∧ Q (g i) H

section
variable {X : Cx} {a b c : Expr} {ta tb tc : TE} {pos : Pos}

theorem binT (ha : PE X a ta) (hb : PE X b tb) {pins : List (Addr × Obj)} {s : Shared} {σ : St} {H : Hp} {R : V → V → Hp → Prop} (I : Inv X pins σ H s)
    (h : ta σ H fun x H1 => tb σ H1 fun y H2 => R x y H2) {Q : Value → Shared → Prop} {f : Value → Value → Sem Value}
    (hf : ∀ v u s2 x y H2, Inv X pins σ H2 s2 → RelV x v → RelV y u → R x y H2 → wpAny (model X.prog X.w) X.A (f v u) Q X.xe s2) :
    wpAny (model X.prog X.w) X.A (eval a X.env) (fun v s₁ => wpAny (model X.prog X.w) X.A (eval b X.env) (fun u s₂ => wpAny (model X.prog X.w) X.A (f v u) Q X.xe s₂) X.xe s₁) X.xe s := by
  refine thn (ha pins s σ H _ I h) fun v s1 ⟨x, H1, I1, r1, q1⟩ => ?_
  refine thn (hb pins s1 σ H1 _ I1 q1) fun u s2 ⟨y, H2, I2, r2, q2⟩ => ?_
  exact hf v u s2 x y H2 I2 r1 r2 q2

theorem pe_op {op : Operator} {r : R2} (ho : OpR X (binaryOp op) r) (ha : PE X a ta) (hb : PE X b tb) : PE X (.BinOp a op b pos) (tOp r ta tb) := by
  intro pins s σ H Q I h
  exact wpAny_BinOp (binT ha hb I h fun v u s2 x y H2 I2 rx ry q => ho pins s2 σ H2 x y v u Q I2 rx ry q)
theorem pe_un {op : UnaryOp} {r : V → Hp → VK → Prop} (ho : UnR X (unaryOp op) r) (ha : PE X a ta) : PE X (.UnaryOp op a pos) (tUn r ta) := by
  intro pins s σ H Q I h
  exact UnaryOp_ (thn (ha pins s σ H _ I h) fun v s1 ⟨x, H1, I1, r1, q1⟩ => ho pins s1 σ H1 x v Q I1 r1 q1)
/-! ### ints -/
theorem opI {f : Value → Value → Sem Value} {C : Int → Int → Prop} {g : Int → Int → Int}
    (rule : ∀ (i j : Int) (t u : Tok) (s : Shared) (Q : Value → Shared → Prop) (E : Value → Shared → Prop), C i j → Q (.int (g i j) s.toks) { s with toks := s.toks + 1 } → wpAny (model X.prog X.w) X.A (f (.int i t) (.int j u)) Q E s) :
    OpR X f (rI C fun i j => .int (g i j)) := by
  intro pins s σ H x y v u Q I rx ry h
  obtain ⟨i, j, rfl, rfl, hc, q⟩ := h
  obtain ⟨t, rfl⟩ := rx
  obtain ⟨t', rfl⟩ := ry
  exact rule i j t t' s _ _ hc ⟨.int (g i j), H, I.tok _, ⟨_, rfl⟩, q⟩
theorem opI0 {f : Value → Value → Sem Value} {g : Int → Int → Int}
    (rule : ∀ (i j : Int) (t u : Tok) (s : Shared) (Q : Value → Shared → Prop) (E : Value → Shared → Prop), Q (.int (g i j) s.toks) { s with toks := s.toks + 1 } → wpAny (model X.prog X.w) X.A (f (.int i t) (.int j u)) Q E s) :
    OpR X f (rI0 fun i j => .int (g i j)) := by
  intro pins s σ H x y v u Q I rx ry h
  obtain ⟨i, j, rfl, rfl, q⟩ := h
  obtain ⟨t, rfl⟩ := rx
  obtain ⟨t', rfl⟩ := ry
  exact rule i j t t' s _ _ ⟨.int (g i j), H, I.tok _, ⟨_, rfl⟩, q⟩
theorem opB0 {f : Value → Value → Sem Value} {g : Int → Int → Bool}
    (rule : ∀ (i j : Int) (t u : Tok) (s : Shared) (Q : Value → Shared → Prop) (E : Value → Shared → Prop), Q (.bool (g i j)) s → wpAny (model X.prog X.w) X.A (f (.int i t) (.int j u)) Q E s) :
    OpR X f (rI0 fun i j => .bl (g i j)) := by
  intro pins s σ H x y v u Q I rx ry h
  obtain ⟨i, j, rfl, rfl, q⟩ := h
  obtain ⟨t, rfl⟩ := rx
  obtain ⟨t', rfl⟩ := ry
  exact rule i j t t' s _ _ ⟨.bl (g i j), H, I, rfl, q⟩

def CDiv (i j : Int) : Prop := 0 < j ∧ j < 1073741824
def CMul (i j : Int) : Prop := (-(2 ^ 64) < i ∧ i < 2 ^ 64) ∨ (-(2 ^ 64) < j ∧ j < 2 ^ 64)
theorem CMul.ok {i j : Int} (h : CMul i j) : IntMulOk i j := by
  rcases h with ⟨h1, h2⟩ | ⟨h1, h2⟩
  · exact .of_left (intBits_le_64 h1 h2)
  · exact .of_right (intBits_le_64 h1 h2)
theorem op_add : OpR X (binaryOp .Add) (rI0 fun i j => .int (i + j)) := opI0 fun _ _ _ _ _ _ _ q => add_int q
theorem op_sub : OpR X (binaryOp .Sub) (rI0 fun i j => .int (i - j)) := opI0 fun _ _ _ _ _ _ _ q => sub_int q
theorem op_mul : OpR X (binaryOp .Mult) (rI CMul fun i j => .int (i * j)) := opI fun _ _ _ _ _ _ _ hc q => mul_int q hc.ok
/-- // by a positive divisor -/
theorem op_fdiv : OpR X (binaryOp .FloorDiv) (rI CDiv fun i j => .int (i / j)) := opI fun i j _ _ _ _ _ hc q => by
  have h1 : (0 : Int) < j := hc.1
  have h2 : j < 1073741824 := hc.2
  exact floordiv_int (by omega) (by rw [Int.fdiv_eq_ediv_of_nonneg i (by omega)]; exact q) (.inl (PyProof.noPylong_small (by omega)))
/-- % by a positive divisor of any size -/
theorem op_mod : OpR X (binaryOp .Mod) (rI (fun _ j => 0 < j) fun i j => .int (i % j)) := opI fun i j _ _ _ _ _ hc q => by
  have h1 : (0 : Int) < j := hc
  exact mod_int' (by omega) (by rw [Int.fmod_eq_emod_of_nonneg i (by omega)]; exact q)
theorem unI {f : Value → Sem Value} {g : Int → Int}
    (rule : ∀ (i : Int) (t : Tok) (s : Shared) (Q : Value → Shared → Prop) (E : Value → Shared → Prop), Q (.int (g i) s.toks) { s with toks := s.toks + 1 } → wpAny (model X.prog X.w) X.A (f (.int i t)) Q E s) :
    UnR X f (rU fun i => .int (g i)) := by
  intro pins s σ H x v Q I rx h
  obtain ⟨i, rfl, q⟩ := h
  obtain ⟨t, rfl⟩ := rx
  exact rule i t s _ _ ⟨.int (g i), H, I.tok _, ⟨_, rfl⟩, q⟩
theorem un_neg : UnR X (unaryOp .USub) (rU fun i => .int (-i)) := unI fun _ _ _ _ _ q => neg_int q
/-! ### bools among ints: n += (a < b) -/
end

/-! ### comparisons -/
/-- the scalars that == tells apart as data does -/
def scal : V → V → Bool
  | .non, .non => true | .non, .int _ => true | .int _, .non => true | .non, .bl _ => true | .bl _, .non => true | .non, .str _ => true | .str _, .non => true
  | .int _, .int _ => true | .bl _, .bl _ => true | .str _, .str _ => true | .byt _, .byt _ => true
  | .int _, .str _ => true | .str _, .int _ => true | .bl _, .str _ => true | .str _, .bl _ => true
  | _, _ => false
def rEq : R2 := fun x y H Q => scal x y = true ∧ Q (.bl (decide (x = y))) H
def rNe : R2 := fun x y H Q => scal x y = true ∧ Q (.bl (!decide (x = y))) H

theorem dec_int {i j : Int} : decide (V.int i = V.int j) = (i == j) := by
  rw [Bool.eq_iff_iff]
  simp
theorem dec_bl {i j : Bool} : decide (V.bl i = V.bl j) = (i == j) := by
  rw [Bool.eq_iff_iff]
  simp
theorem dec_str {i j : Str} : decide (V.str i = V.str j) = (i == j) := by
  rw [Bool.eq_iff_iff]
  simp
theorem dec_byt {i j : Array UInt8} : decide (V.byt i = V.byt j) = (i.toList == j.toList) := by
  rw [Bool.eq_iff_iff]
  cases i
  cases j
  simp

section
variable {X : Cx} {a b c : Expr} {ta tb tc : TE} {pos : Pos}
theorem fin_bl {pins : List (Addr × Obj)} {σ : St} {H : Hp} {s : Shared} {Q : VK} {k k' : Bool} (I : Inv X pins σ H s) (q : Q (.bl k) H) (e : k = k') : EP X pins σ Q (.bool k') s := by
  subst e
  exact ⟨.bl k, H, I, rfl, q⟩
theorem op_eq : OpR X (compareOp .Eq) rEq := by
  intro pins s σ H x y v u Q I rx ry h
  obtain ⟨hs, q⟩ := h
  cases x with
  | non =>
    cases rx
    cases y with
    | non => cases ry; exact PySem.EqNone.eq_none_none (fin_bl I q (by simp))
    | bl j => cases ry; exact PySem.EqNone.eq_none_bool (fin_bl I q (by simp))
    | int j => obtain ⟨t', rfl⟩ := ry; exact PySem.EqNone.eq_none_int (fin_bl I q (by simp))
    | str j => obtain ⟨t', rfl⟩ := ry; exact PySem.EqNone.eq_none_str (fin_bl I q (by simp))
    | _ => exact absurd (show false = true from hs) Bool.false_ne_true
  | bl i =>
    cases rx
    cases y with
    | non => cases ry; exact PySem.EqNone.eq_bool_none (fin_bl I q (by simp))
    | bl j => cases ry; exact eq_bool (fin_bl I q dec_bl)
    | str j => obtain ⟨t', rfl⟩ := ry; exact PySem.EqMixed.eq_bool_str (fin_bl I q (by simp))
    | _ => exact absurd (show false = true from hs) Bool.false_ne_true
  | int i =>
    obtain ⟨t, rfl⟩ := rx
    cases y with
    | non => cases ry; exact PySem.EqNone.eq_int_none (fin_bl I q (by simp))
    | int j => obtain ⟨t', rfl⟩ := ry; exact eq_int (fin_bl I q dec_int)
    | str j => obtain ⟨t', rfl⟩ := ry; exact PySem.EqMixed.eq_int_str (fin_bl I q (by simp))
    | _ => exact absurd (show false = true from hs) Bool.false_ne_true
  | str i =>
    obtain ⟨t, rfl⟩ := rx
    cases y with
    | non => cases ry; exact PySem.EqNone.eq_str_none (fin_bl I q (by simp))
    | bl j => cases ry; exact PySem.EqMixed.eq_str_bool (fin_bl I q (by simp))
    | int j => obtain ⟨t', rfl⟩ := ry; exact PySem.EqMixed.eq_str_int (fin_bl I q (by simp))
    | str j => obtain ⟨t', rfl⟩ := ry; exact eq_str (fin_bl I q dec_str)
    | _ => exact absurd (show false = true from hs) Bool.false_ne_true
  | byt i =>
    obtain ⟨t, rfl⟩ := rx
    cases y with
    | byt j => obtain ⟨t', rfl⟩ := ry; exact PySem.W.eq_bytes (fin_bl I q dec_byt)
    | _ => exact absurd (show false = true from hs) Bool.false_ne_true
  | _ => cases y <;> exact absurd (show false = true from hs) Bool.false_ne_true
theorem op_ne : OpR X (compareOp .NotEq) rNe := by
  intro pins s σ H x y v u Q I rx ry h
  obtain ⟨hs, q⟩ := h
  cases x with
  | non =>
    cases rx
    cases y with
    | non => cases ry; exact PySem.EqNone.ne_none_none (fin_bl I q (by simp))
    | bl j => cases ry; exact PySem.EqNone.ne_none_bool (fin_bl I q (by simp))
    | int j => obtain ⟨t', rfl⟩ := ry; exact PySem.EqNone.ne_none_int (fin_bl I q (by simp))
    | str j => obtain ⟨t', rfl⟩ := ry; exact PySem.EqNone.ne_none_str (fin_bl I q (by simp))
    | _ => exact absurd (show false = true from hs) Bool.false_ne_true
  | bl i =>
    cases rx
    cases y with
    | non => cases ry; exact PySem.EqNone.ne_bool_none (fin_bl I q (by simp))
    | bl j => cases ry; exact ne_bool (fin_bl I q (congrArg not dec_bl))
    | str j => obtain ⟨t', rfl⟩ := ry; exact PySem.EqMixed.ne_bool_str (fin_bl I q (by simp))
    | _ => exact absurd (show false = true from hs) Bool.false_ne_true
  | int i =>
    obtain ⟨t, rfl⟩ := rx
    cases y with
    | non => cases ry; exact PySem.EqNone.ne_int_none (fin_bl I q (by simp))
    | int j => obtain ⟨t', rfl⟩ := ry; exact ne_int (fin_bl I q (congrArg not dec_int))
    | str j => obtain ⟨t', rfl⟩ := ry; exact PySem.EqMixed.ne_int_str (fin_bl I q (by simp))
    | _ => exact absurd (show false = true from hs) Bool.false_ne_true
  | str i =>
    obtain ⟨t, rfl⟩ := rx
    cases y with
    | non => cases ry; exact PySem.EqNone.ne_str_none (fin_bl I q (by simp))
    | bl j => cases ry; exact PySem.EqMixed.ne_str_bool (fin_bl I q (by simp))
    | int j => obtain ⟨t', rfl⟩ := ry; exact PySem.EqMixed.ne_str_int (fin_bl I q (by simp))
    | str j => obtain ⟨t', rfl⟩ := ry; exact ne_str (fin_bl I q (congrArg not dec_str))
    | _ => exact absurd (show false = true from hs) Bool.false_ne_true
  | byt i =>
    obtain ⟨t, rfl⟩ := rx
    cases y with
    | byt j => obtain ⟨t', rfl⟩ := ry; exact PySem.W.ne_bytes (fin_bl I q (congrArg not dec_byt))
    | _ => exact absurd (show false = true from hs) Bool.false_ne_true
  | _ => cases y <;> exact absurd (show false = true from hs) Bool.false_ne_true

theorem op_lt : OpR X (compareOp .Lt) (rI0 fun i j => .bl (decide (i < j))) := opB0 fun _ _ _ _ _ _ _ q => lt_int q
theorem op_le : OpR X (compareOp .LtE) (rI0 fun i j => .bl (decide (i ≤ j))) := opB0 fun _ _ _ _ _ _ _ q => le_int q
theorem op_gt : OpR X (compareOp .Gt) (rI0 fun i j => .bl (decide (j < i))) := opB0 fun _ _ _ _ _ _ _ q => gt_int q
/-- is None, is not None: the right side a value none -/
theorem op_isN : OpR X (compareOp .Is) (fun x y H Q => y = .non ∧ Q (.bl (decide (x = .non))) H) := by
  intro pins s σ H x y v u Q I rx ry h
  obtain ⟨rfl, q⟩ := h
  cases ry
  refine is_none_gen (fin_bl I q ?_)
  cases x <;> first
    | (cases rx; rfl)
    | (obtain ⟨t, rfl⟩ := rx; rfl)
/-- two rules for one operation: by cases -/
theorem OpR.or {f : Value → Value → Sem Value} {r r' : R2} (h : OpR X f r) (h' : OpR X f r') : OpR X f (fun x y H Q => r x y H Q ∨ r' x y H Q) := by
  intro pins s σ H x y v u Q I rx ry q
  rcases q with q | q
  · exact h pins s σ H x y v u Q I rx ry q
  · exact h' pins s σ H x y v u Q I rx ry q

theorem nomark (b : Expr) {op : CmpOp} (h : op ≠ .In := by decide) (h2 : op ≠ .NotIn := by decide) : behindInMarks op b = false := by
  have e1 : (op == CmpOp.In) = false := by cases op <;> first | rfl | exact absurd rfl h
  have e2 : (op == CmpOp.NotIn) = false := by cases op <;> first | rfl | exact absurd rfl h2
  cases b <;> simp [behindInMarks, e1, e2]
/-- a comparison as a value; hm: nomark b, or (for in, not in) by with_unfolding_all rfl -/
theorem pe_cmpR {op : CmpOp} {r : R2} (ho : OpR X (compareOp op) r) (ha : PE X a ta) (hb : PE X b tb) (hm : behindInMarks op b = false) : PE X (.Compare a [op] [b] pos) (tOp r ta tb) := by
  intro pins s σ H Q I h
  exact wpAny_Compare1 (binT ha hb I h fun v u s2 x y H2 I2 rx ry q => ho pins s2 σ H2 x y v u Q I2 rx ry q) hm
/-- a reading of a value as a test -/
def tTest (t : TE) : TT := fun σ H Q => t σ H fun x H' => ∃ k, x = .bl k ∧ Q k H'
theorem pt_cmpR {op : CmpOp} {r : R2} (ho : OpR X (compareOp op) r) (ha : PE X a ta) (hb : PE X b tb) (hm : behindInMarks op b = false) : PT X (.Compare a [op] [b] pos) (tTest (tOp r ta tb)) := by
  intro pins s σ H Q I h
  refine wpAny_isTrue_Compare1 (thn (ha pins s σ H _ I h) fun v s1 ⟨x, H1, I1, r1, q1⟩ => thn (hb pins s1 σ H1 _ I1 q1) fun u s2 ⟨y, H2, I2, r2, q2⟩ =>
    thn (ho pins s2 σ H2 x y v u _ I2 r1 r2 q2) fun c s3 ⟨z, H3, I3, r3, k, e, q3⟩ => ?_) hm
  subst e
  cases r3
  exact wpAny_truthy_bool ⟨H3, I3, q3⟩
/-- a op1 b op2 c -/
def tChain (r r' : R2) (ta tb tc : TE) : TE := fun σ H Q => ta σ H fun x H1 => tb σ H1 fun y H2 => r x y H2 fun z H3 => ∃ k, z = .bl k ∧
  (if k = true then tc σ H3 fun w' H4 => r' y w' H4 Q else Q (.bl false) H3)
theorem pt_chain {op op' : CmpOp} {r r' : R2} (ho : OpR X (compareOp op) r) (ho' : OpR X (compareOp op') r') (ha : PE X a ta) (hb : PE X b tb) (hc : PE X c tc)
    (hm : lastMarks [op, op'] [b, c] = false := by with_unfolding_all rfl) : PT X (.Compare a [op, op'] [b, c] pos) (tTest (tChain r r' ta tb tc)) := by
  intro pins s σ H Q I h
  refine isTrue_chain (thn (ha pins s σ H _ I h) fun v s1 ⟨x, H1, I1, r1, q1⟩ => test_link (thn (hb pins s1 σ H1 _ I1 q1) fun u s2 ⟨y, H2, I2, r2, q2⟩ =>
    thn (ho pins s2 σ H2 x y v u _ I2 r1 r2 q2) fun d s3 ⟨z, H3, I3, r3, k, e, q3⟩ => ?_)) hm
  subst e
  cases r3
  refine wpAny_truthy_bool ?_
  cases k with
  | false =>
    obtain ⟨k', e', q'⟩ := q3
    cases e'
    exact ite_ff ⟨H3, I3, q'⟩
  | true =>
    refine ite_tt (test_last (thn (hc pins s3 σ H3 _ I3 q3) fun w' s4 ⟨z', H4, I4, r4, q4⟩ => thn (ho' pins s4 σ H4 y z' u w' _ I4 r2 r4 q4) fun d' s5 ⟨z2, H5, I5, r5, k2, e2, q5⟩ => ?_))
    subst e2
    cases r5
    exact wpAny_truthy_bool ⟨H5, I5, q5⟩

/-! ### truth -/
theorem line63 : (sizeLine : Nat) < 2 ^ 63 := by rw [sizeLine_eq]; decide
/-! ### strs and bytes -/
theorem op_add_str : OpR X (binaryOp .Add) (fun x y H Q => ∃ i j, x = .str i ∧ y = .str j ∧ i.length + j.length ≤ sizeLine ∧ Q (.str (i ++ j)) H) := by
  intro pins s σ H x y v u Q I rx ry h
  obtain ⟨i, j, rfl, rfl, hz, q⟩ := h
  obtain ⟨t, rfl⟩ := rx
  obtain ⟨t', rfl⟩ := ry
  exact add_str (fun t' tk => ⟨.str (i ++ j), H, I.tok _, ⟨_, rfl⟩, q⟩) hz
/-! ### scalar builtins, by CallR -/
theorem vals1 {x : V} {us : List Value} (r : Vals [x] us) : ∃ u, us = [u] ∧ RelV x u := by
  cases r with
  | cons r1 r2 => cases r2; exact ⟨_, rfl, r1⟩
theorem vals2 {x y : V} {us : List Value} (r : Vals [x, y] us) : ∃ u w', us = [u, w'] ∧ RelV x u ∧ RelV y w' := by
  cases r with
  | cons r1 r2 =>
    cases r2 with
    | cons r3 r4 => cases r4; exact ⟨_, _, rfl, r1, r3⟩
theorem call_min2 (hc : X.calm = true) : CallR X (.builtin "min") (fun xs H Q => ∃ i j, xs = [.int i, .int j] ∧ Q (.int (if j < i then j else i)) H) := by
  intro pins s σ H xs us Q I r h
  obtain ⟨i, j, rfl, q⟩ := h
  obtain ⟨u, w', rfl, ⟨t, rfl⟩, ⟨t', rfl⟩⟩ := vals2 r
  refine min_two_ints (I.ok.hd hc) fun h' tk k => ⟨_, H, I.kept k, ?_, q⟩
  by_cases hj : j < i
  · rw [if_pos hj, if_pos hj]; exact ⟨_, rfl⟩
  · rw [if_neg hj, if_neg hj]; exact ⟨_, rfl⟩
end
end L2

namespace L2
open PySem PySem.Spec PyProof.Rows

/-! ### an instance, its attributes a map -/
structure ObjM (h : Heap) (x dx C : Addr) (mA : Str → Option Value) : Prop where
  obj : h.get? x = some (PySem.W.instObj C dx)
  ns : h.Ns1 dx mA
  ne : dx ≠ x

section
variable {prog : Program} {w : World} {A : Around} {E : Value → Shared → Prop} {s : Shared} {K : PySem.W.Frag} {x dx C f : Addr} {mA : Str → Option Value} {name : Str} {v : Value}

end

/-! ### the attributes as a list of pairs -/
section
variable {P : Program} {w : World} {H H' : Hp} {h h' : Heap} {a C dx : Addr} {fs fs' : List (Str × V)}
end

/-! ### what of the text a class must have -/
structure Cls (K : PySem.W.Frag) (C : Addr) : Prop where
  pg : PySem.W.plainGet K C Str.empty = true
  hd : PySem.W.hasDictIn K C = true
  po : PySem.W.plainOver K C = true
  sa : PySem.W.findIn K (.ref C) "__setattr__" = some (some (.builtin "object.__setattr__"))
theorem Cls.get {K : PySem.W.Frag} {C : Addr} (c : Cls K C) (f : Str) : PySem.W.plainGet K C f = true := c.pg
/-- a constant of the class -/
structure Con (K : PySem.W.Frag) (C : Addr) (f : Str) (v : V) (u : Value) : Prop where
  at_ : PySem.W.findIn K (.ref C) f = some (some u)
  rel : RelV v u
  get : PySem.W.specialIn K u "__get__" = some none
  cp : PySem.W.copiedNames.contains f = false
/-- a method: a plain def of the class or of one above it -/
structure Meth (K : PySem.W.Frag) (C : Addr) (m : Str) (f : Addr) : Prop where
  at_ : PySem.W.findIn K (.ref C) m = some (some (.ref f))
  fn : PySem.W.isFn K (.ref f) = true
  kp : PySem.W.keepIn K (.ref f) = true

section
variable {X : Cx} {pins : List (Addr × Obj)} {σ : St} {H : Hp} {s : Shared} {a C dx : Addr} {fs : List (Str × V)} {f : Str} {v : V} {A : Around} {E : Value → Shared → Prop}

/-- a new instance, tracked, without attributes -/
theorem Inv.made (I : Inv X pins σ H s) : Inv X pins σ (upd (upd H s.heap.objs.size (.own (s.heap.objs.size + 1))) (s.heap.objs.size + 1) (.ins C s.heap.objs.size []))
    { s with heap := (s.heap.push PySem.W.emptyDict).push (PySem.W.instObj C s.heap.objs.size) } := by
  have e1 : (s.heap.push PySem.W.emptyDict).get? s.heap.objs.size = some PySem.W.emptyDict := Heap.get?_push_size s.heap rfl
  have e2 : ((s.heap.push PySem.W.emptyDict).push (PySem.W.instObj C s.heap.objs.size)).get? (s.heap.objs.size + 1) = some (PySem.W.instObj C s.heap.objs.size) := by
    have := Heap.get?_push_size (s.heap.push PySem.W.emptyDict) (o := PySem.W.instObj C s.heap.objs.size) rfl
    rwa [Heap.size_push] at this
  have e3 : (s.heap.push PySem.W.emptyDict).Ns s.heap.objs.size (fun _ => none) := ⟨PySem.W.emptyDict, #[], _, e1, rfl, (fun e he => absurd he (by simp)), fun _ => rfl⟩
  have I1 := I.laid (a := s.heap.objs.size) (o := .own (s.heap.objs.size + 1)) (h' := s.heap.push PySem.W.emptyDict) (t' := s.toks) (fun b u q => Heap.get?_push_of_some _ q) (Nat.le_refl _) ⟨_, e1⟩
  refine I1.laid (a := s.heap.objs.size + 1) (o := .ins C s.heap.objs.size []) (t' := s.toks) (fun b u q => Heap.get?_push_of_some _ q) (Nat.le_of_eq (Heap.size_push _ _)) ?_
  have ne : s.heap.objs.size ≠ s.heap.objs.size + 1 := Nat.ne_of_lt (Nat.lt_succ_self _)
  refine ⟨by rw [upd_ne ne, upd_same], Nat.zero_le _, ne, e2, fun _ => none, (Heap.Ns1.of_empty e3).at fun o q => Heap.get?_push_of_some _ q, fun _ => True.intro, fun y hy => absurd rfl hy⟩

end

/-! ### readings and rules -/
section
variable {X : Cx} {o e value : Expr} {f : Str} {pos pos' tpos : Pos} {ta tv : TE}
end

/-! ### isinstance -/
section
variable {X : Cx} {pins : List (Addr × Obj)} {σ : St} {H : Hp} {s : Shared} {A : Around} {E : Value → Shared → Prop} {Q : Value → Shared → Prop} {c : Value} {b : Bool}
/-- the type of a value, as the fragment's deciders take it; for an instance its class -/
inductive TyOf (K : PySem.W.Frag) (H : Hp) : V → Value → Prop where
  | non : TyOf K H .non (.type "NoneType")
  | bl (x : Bool) : TyOf K H (.bl x) (.type "bool")
  | int (i : Int) : TyOf K H (.int i) (.type "int")
  | str (x : Str) : TyOf K H (.str x) (.type "str")
  | flt (x : UInt64) : TyOf K H (.flt x) (.type "float")
  | lst {a : Addr} {xs : List V} (e : H a = some (.lst xs)) : TyOf K H (.ref a) (.type "list")
  | frz {a : Addr} {o : Obj} {xs : List V} (e : H a = some (.frz o (.lst xs))) : TyOf K H (.ref a) (.type "list")
  | tup {a : Addr} {xs : List V} (e : H a = some (.tup xs)) : TyOf K H (.ref a) (.type "tuple")
  | dK {a : Addr} {kvs : List (Key × V)} (e : H a = some (.dK kvs)) : TyOf K H (.ref a) (.type "dict")
  | dT {a : Addr} {kvs : List (List Key × V)} (e : H a = some (.dT kvs)) : TyOf K H (.ref a) (.type "dict")
  | ins {a C dx : Addr} {fs : List (Str × V)} (e : H a = some (.ins C dx fs)) (cl : Cls K C) (ha : PySem.W.findIn K (.ref C) "__class__" = some (some (.builtin "object.__class__")))
      (hn : PySem.W.specialIn K (.builtin "object.__class__") "__get__" = some (some (.builtin "getset_descriptor.__get__"))) (htk : PySem.W.takesIn K (.builtin "object.__class__") = some true)
      (hm : PySem.W.mroIn K C (.type "object") = some true) : TyOf K H (.ref a) (.ref C)
end
end L2

namespace L2
open PySem PySem.Spec PyProof.Rows

/-! ### room -/
structure Room (k : Nat) (A : Around) : Prop where
  hd : A.handled = none
  dp : A.depth + 3 * k + 5 < recursionLimit
  un : A.units + 16 * k + 200 < cLine
theorem Room.mono {j k : Nat} {A : Around} (r : Room k A) (h : j ≤ k) : Room j A := ⟨r.hd, by have := r.dp; omega, by have := r.un; omega⟩
theorem Room.deeper {k : Nat} {A : Around} (r : Room (k + 1) A) (env : Env) : Room k (A.deeper env) :=
  ⟨r.hd, by have := r.dp; show A.depth + 1 + 3 * k + 5 < _; omega, by have := r.un; show A.units + 3 + 16 * k + 200 < _; omega⟩
theorem Room.in1 {k : Nat} {A : Around} (r : Room (k + 1) A) : Room k A.in1 :=
  ⟨r.hd, by have := r.dp; show A.depth + 3 * k + 5 < _; omega, by have := r.un; show A.units + 1 + 16 * k + 200 < _; omega⟩
theorem Room.depth {k : Nat} {A : Around} (r : Room k A) : A.depth < recursionLimit := by have := r.dp; omega
theorem Room.units {k : Nat} {A : Around} (r : Room k A) : A.units + 64 < cLine := by have := r.un; omega
/-! ### argument lists and displays -/
def tNil : TA := fun _ H Q => Q [] H
def tCons (ta : TE) (tr : TA) : TA := fun σ H Q => ta σ H fun x H1 => tr σ H1 fun xs H2 => Q (x :: xs) H2
section
variable {X : Cx} {e : Expr} {es : List Expr} {te : TE} {t : TA} {pos : Pos}
theorem pa_nil : PA X [] tNil := fun _ _ _ _ H Q I h => Calls.spliced_nil ⟨[], H, I, .nil, h⟩
theorem pa_cons (ha : PE X e te) (hr : PA X es t) (hs : starEach (e :: es) X.env = (false, eval e X.env) :: starEach es X.env := by rfl) : PA X (e :: es) (tCons te t) := by
  intro pos pins s σ H Q I h
  rw [hs]
  show wpAny _ _ (spliced ((false, eval e X.env) :: backTo pos (starEach es X.env))) _ _ s
  refine Calls.spliced_cons (thn (ha pins s σ H _ I h) fun u s1 ⟨x, H1, I1, r1, q1⟩ => ?_)
  exact thn (hr pos pins s1 σ H1 _ I1 q1) fun us s2 ⟨xs, H2, I2, r2, q2⟩ => ⟨x :: xs, H2, I2, .cons r1 r2, q2⟩

/-- a tuple, a list of written items -/
def tTup (t : TA) : TE := fun σ H Q => t σ H fun xs H1 => xs.length ≤ sizeLine ∧ ∀ p, H1 p = none → Q (.ref p) (upd H1 p (.tup xs))
def tLst (t : TA) : TE := fun σ H Q => t σ H fun xs H1 => xs.length ≤ sizeLine ∧ ∀ p, H1 p = none → Q (.ref p) (upd H1 p (.lst xs))
theorem pe_tup {x1} (h : PA X es t) : PE X (.Tuple es x1 pos) (tTup t) := by
  intro pins s σ H Q I hq
  refine wpAny_Tuple_spliced (thn (h pos pins s σ H _ I hq) fun us s1 ⟨xs, H1, I1, r, z, q⟩ => ⟨by rw [← r.length]; exact z, ?_⟩)
  have hf : H1 s1.heap.objs.size = none := I1.hok.fresh (Nat.le_refl _)
  refine ⟨.ref s1.heap.objs.size, upd H1 s1.heap.objs.size (.tup xs), I1.laid (t' := s1.toks) (fun b u e => Heap.get?_push_of_some _ e) (Nat.le_refl _) ?_, rfl, q _ hf⟩
  exact ⟨z, us, r, ⟨_, Heap.get?_push_size _ rfl, rfl, _, rfl⟩⟩
theorem pe_lst (h : PA X es t) : PE X (.List es pos) (tLst t) := by
  intro pins s σ H Q I hq
  refine wpAny_List_spliced (thn (h pos pins s σ H _ I hq) fun us s1 ⟨xs, H1, I1, r, z, q⟩ => ⟨by rw [← r.length]; exact z, ?_⟩)
  have hf : H1 s1.heap.objs.size = none := I1.hok.fresh (Nat.le_refl _)
  refine ⟨.ref s1.heap.objs.size, upd H1 s1.heap.objs.size (.lst xs), I1.laid (t' := s1.toks) (fun b u e => Heap.get?_push_of_some _ e) (Nat.le_refl _) ?_, rfl, q _ hf⟩
  exact ⟨z, us, 0, r, Heap.get?_push_size _ rfl⟩
end

/-! ### what a def promises -/
/-- a def's promise: the bound arguments in the parameters' order, the heap, the wanted end, the wanted exception -/
abbrev Sp := List V → Hp → VK → XK → Prop
/-- how an exception lies behind a call (file 08 gives it): the callers' frames, abstract heap and state ahead of the call, the wish, the exception, the state -/
abbrev CXT := List Env → Hp → Shared → XK → Value → Shared → Prop

/-- the state at a call -/
structure Env0 (P : Program) (w : World) (K : PySem.W.Frag) (mg : Str → Option Value) (base : Heap) (A : Around) (outer : List Env) (s : Shared) (H : Hp) : Prop where
  frames : A.frames = some outer
  mod : Mod K mg base
  bs : ∀ b o, base.get? b = some o → s.heap.get? b = some o ∧ H b = none
  bsz : base.objs.size ≤ s.heap.objs.size
  funs : s.heap.FunFrames base outer
  frf : ∀ b ∈ frs outer, H b = none
  hok : HOk P w H s.heap
  bare : AllBare s.gens
/-- a call's end -/
def CE (outer : List Env) (P : Program) (w : World) (H : Hp) (s : Shared) (Q : VK) (u : Value) (s' : Shared) : Prop :=
  ∃ v H', s'.os = s.os ∧ AllBare s'.gens ∧ Un (frs outer) [] H H' s.heap s'.heap ∧ HOk P w H' s'.heap ∧ RelV v u ∧ Q v H'
def CR (CX : CXT) (outer : List Env) (P : Program) (w : World) (H : Hp) (s : Shared) (Q : VK) (E : XK) (r : Result) (s' : Shared) : Prop :=
  match r with
  | .ok (.ret u) => CE outer P w H s Q u s'
  | .ok _ => False
  | .error e => CX outer H s E e s'
structure FnOk (P : Program) (w : World) (K : PySem.W.Frag) (mg : Str → Option Value) (base : Heap) (CX : CXT) (k : Nat) (f : Addr) (fd : FuncData) (ps : List Str) (sp : Sp) : Prop where
  len : ∀ vs H Q E, sp vs H Q E → vs.length = ps.length
  run : ∀ (A : Around) (outer : List Env) (s : Shared) (H : Hp) (args : Args) (us : List Value) (vs : List V) (Q : VK) (E : XK), Room k A → Env0 P w K mg base A outer s H → BindsTo s fd args (ps.zip us) → Vals vs us → sp vs H Q E →
    codeAny (model P w) A (.call (.ref f) args) (CR CX outer P w H s Q E) s
theorem FnOk.mono {P : Program} {w : World} {K : PySem.W.Frag} {mg : Str → Option Value} {base : Heap} {CX : CXT} {j k : Nat} {f : Addr} {fd : FuncData} {ps : List Str} {sp : Sp} (F : FnOk P w K mg base CX j f fd ps sp) (h : j ≤ k) :
    FnOk P w K mg base CX k f fd ps sp := ⟨F.len, fun A outer s H args us vs Q E hr => F.run A outer s H args us vs Q E (hr.mono h)⟩
theorem Env0.in1 {P : Program} {w : World} {K : PySem.W.Frag} {mg : Str → Option Value} {base : Heap} {A : Around} {outer : List Env} {s : Shared} {H : Hp} (e : Env0 P w K mg base A outer s H) :
    Env0 P w K mg base A.in1 outer s H := ⟨e.frames, e.mod, e.bs, e.bsz, e.funs, e.frf, e.hok, e.bare⟩

section
variable {X : Cx} {pins : List (Addr × Obj)} {σ : St} {H : Hp} {s s' : Shared}
/-- from a body: what a callee wants -/
theorem Inv.env0 (I : Inv X pins σ H s) : Env0 X.prog X.w X.K X.mg X.base X.A X.stack s H :=
  ⟨I.ok.frames, I.ok.mod, I.bs, Nat.le_trans I.ok.bsz I.sz, I.stack, I.stkFree, I.hok, I.bare⟩
/-- behind a call -/
theorem Inv.after {Q : VK} {u : Value} (I : Inv X pins σ H s) (h : CE X.stack X.prog X.w H s Q u s') : EP X pins σ Q u s' := by
  obtain ⟨v, H', os, bare, un, hok, r, q⟩ := h
  obtain ⟨hh, g, d, t, os'⟩ := s'
  obtain rfl : os' = s.os := os
  exact ⟨v, H', I.call (h' := hh) (g' := g) (d' := d) (t' := t) (ch := []) un hok bare (fun b z => absurd z (by simp)), r, q⟩
end

/-! ### calls -/
/-- f(..): the written arguments, then the defaults dvs; E: what is wanted of an exception -/
def tCall (sp : Sp) (dvs : List V) (E : XK) (t : TA) : TE := fun σ H Q => t σ H fun vs H1 => sp (vs ++ dvs) H1 Q E
/-- how the parameters are bound: us the positional arguments, kw the keywords' values by name, ds the defaults that fill up -/
def Binds (K : PySem.W.Frag) (fd : FuncData) (ps : List Str) (ds : List Value) : Prop :=
  ∀ (s : Shared) (us : List Value), K.In s.heap → (us ++ ds).length = ps.length → BindsTo s fd ⟨us, []⟩ (ps.zip (us ++ ds))
/-- every parameter is given -/
theorem Binds.all {K : PySem.W.Frag} {fd : FuncData} {ps : List Str} (h : ∀ us : List Value, us.length = ps.length → bindArgs fd ⟨us, []⟩ = pure (ps.zip us)) : Binds K fd ps [] := fun s us _ hl => by
  rw [List.append_nil] at hl ⊢
  exact .of_eq (h us hl)

/-- an exception of a callee reaches what this body wants of exceptions -/
def Passes (CX : CXT) (X : Cx) (E : XK) : Prop := ∀ (pins : List (Addr × Obj)) (σ : St) (H : Hp) (s : Shared) (e : Value) (s' : Shared), Inv X pins σ H s → CX X.stack H s E e s' → X.xe e s'

section
variable {X : Cx} {CX : CXT} {k : Nat} {f C : Addr} {fd : FuncData} {ps : List Str} {sp : Sp} {dvs : List V} {ds : List Value} {E : XK} {x m : Str} {p pos apos : Pos} {e o : Expr} {es : List Expr} {ta : TE} {t : TA}

/-- the callee runs -/
theorem run_fn {pins : List (Addr × Obj)} {σ : St} {H : Hp} {s : Shared} {Q : VK} {us : List Value} {vs : List V} (F : FnOk X.prog X.w X.K X.mg X.base CX k f fd ps sp) (hr : Room k X.A) (hb : Binds X.K fd ps ds) (hd : Vals dvs ds) (hx : Passes CX X E)
    (I : Inv X pins σ H s) (r : Vals vs us) (h : sp (vs ++ dvs) H Q E) : wpAny (model X.prog X.w) X.A (call (.ref f) us) (EP X pins σ Q) X.xe s := by
  have r2 : Vals (vs ++ dvs) (us ++ ds) := r.append hd
  have hl : (us ++ ds).length = ps.length := by rw [← r2.length]; exact F.len _ _ _ _ h
  refine wpAny_call (codeAny_mono (F.run X.A X.stack s H ⟨us, []⟩ (us ++ ds) (vs ++ dvs) Q E hr I.env0 (hb s us I.kIn hl) r2 h) fun r s' hq => ?_)
  cases r with
  | error e => exact hx pins σ H s e s' I hq
  | ok fl =>
    cases fl with
    | ret u => exact I.after hq
    | next => exact False.elim hq
    | brk => exact False.elim hq
    | cont => exact False.elim hq

theorem pe_call (F : FnOk X.prog X.w X.K X.mg X.base CX k f fd ps sp) (hr : Room k X.A) (hg : Gl X x) (hm : X.mg x = some (.ref f)) (hk : PySem.W.keepIn X.K (.ref f) = true) (hb : Binds X.K fd ps ds) (hd : Vals dvs ds) (hx : Passes CX X E)
    (ha : PA X (e :: es) t) (hdb : (x == ("__debug__" : Str)) = false := by decide) (he : starEach (e :: es) X.env = (false, eval e X.env) :: starEach es X.env := by rfl) (hpl : (backTo pos (starEach es X.env)).any (·.1) = false := by rfl) :
    PE X (.Call (.Name x p) (e :: es) [] pos) (tCall sp dvs E t) := by
  intro pins s σ H Q I h
  refine wpAny_Call_Name_kw (ld_glob I hg hm ?_ hdb)
  refine PySem.W.callWith_K (h₀ := X.base) I.ok.mod.kin hk (thn (ha pos pins s σ H _ I h) fun us s1 ⟨vs, H1, I1, r, q⟩ => ⟨I1.kIn, ?_⟩) he hpl
  exact run_fn F hr hb hd hx I1 r q
/-- what a class must have to be made -/
structure Mk (K : PySem.W.Frag) (C f : Addr) : Prop where
  makes : PySem.W.makesIn K C = true
  init : PySem.W.findIn K (.ref C) "__init__" = some (some (.ref f))
  fn : PySem.W.isFn K (.ref f) = true
  kp : PySem.W.keepIn K (.ref C) = true

end

/-! ### keywords -/
section
variable {X : Cx} {CX : CXT} {k : Nat} {f C : Addr} {fd : FuncData} {ps ks : List Str} {sp : Sp} {E : XK} {x m : Str} {p pos apos kpos : Pos} {e o : Expr} {es : List Expr} {kws : List Keyword} {te ta : TE} {t tk : TA} {nm : Option Str}
/-- how a call with keywords binds: g puts the positional values us and the keywords' values ws (names ks) in the parameters' order, defaults among them -/
structure KBinds (K : PySem.W.Frag) (fd : FuncData) (ps ks : List Str) (g : List Value → List Value → List Value) (gV : List V → List V → List V) : Prop where
  to : ∀ (s : Shared) (us ws : List Value), K.In s.heap → (g us ws).length = ps.length → BindsTo s fd ⟨us, ks.zip ws⟩ (ps.zip (g us ws))
  rel : ∀ {vs : List V} {us : List Value} {zs : List V} {ws : List Value}, Vals vs us → Vals zs ws → Vals (gV vs zs) (g us ws)
variable {g : List Value → List Value → List Value} {gV : List V → List V → List V}
end

/-! ### a def's body keeps its promise -/
/-- names: the parameters first -/
structure FnScope (N P : List Str) (sc : Scope) : Prop where
  kind : sc.kind = .function
  co : sc.isCoroutine = false
  gen : sc.isGenerator = false
  nd : N.Nodup
  pre : N.take P.length = P
  par : ∀ x ∈ P, sc.names.lookup x = some .local ∨ sc.names.lookup x = some .cell
  nofree : ∀ y ∈ sc.names, y.2 ≠ .free

theorem bindL_out {kindOf : Str → Option NameKind} {x : Str} : ∀ {binds : List (Str × Value)} {m : Str → Option Value}, (∀ v, (x, v) ∉ binds) → bindL kindOf binds m x = m x
  | [], _, _ => rfl
  | (n, v) :: r, m, h => by
    unfold bindL
    rw [bindL_out fun w hw => h w (List.mem_cons_of_mem _ hw)]
    split
    · have : x ≠ n := by rintro rfl; exact h v List.mem_cons_self
      simp [this]
    · rfl
theorem bindC_out {kindOf : Str → Option NameKind} {x : Str} : ∀ {binds : List (Str × Value)} {m : Str → Option Value}, (∀ v, (x, v) ∉ binds) → bindC kindOf binds m x = m x
  | [], _, _ => rfl
  | (n, v) :: r, m, h => by
    unfold bindC
    rw [bindC_out fun w hw => h w (List.mem_cons_of_mem _ hw)]
    split
    · rfl
    · have : x ≠ n := by rintro rfl; exact h v List.mem_cons_self
      simp [this]
theorem bindL_get {kindOf : Str → Option NameKind} {x : Str} {v : Value} : ∀ {P : List Str} {vs : List Value} {i : Nat} {m : Str → Option Value}, P.Nodup → P[i]? = some x → vs[i]? = some v → kindOf x = some .local →
    bindL kindOf (P.zip vs) m x = some v
  | [], _, _, _, _, h, _, _ => by simp at h
  | _ :: _, [], _, _, _, _, h, _ => by simp at h
  | p :: P, w :: vs, 0, m, nd, h1, h2, hk => by
    simp at h1 h2; subst h1; subst h2
    show bindL kindOf ((p, w) :: P.zip vs) m p = _
    unfold bindL
    rw [bindL_out fun v hv => (List.nodup_cons.mp nd).1 (List.of_mem_zip hv).1, if_pos hk]
    simp
  | p :: P, w :: vs, i + 1, m, nd, h1, h2, hk => by
    show bindL kindOf ((p, w) :: P.zip vs) m x = _
    unfold bindL
    exact bindL_get (i := i) (List.nodup_cons.mp nd).2 (by simpa using h1) (by simpa using h2) hk
theorem bindC_get {kindOf : Str → Option NameKind} {x : Str} {v : Value} : ∀ {P : List Str} {vs : List Value} {i : Nat} {m : Str → Option Value}, P.Nodup → P[i]? = some x → vs[i]? = some v → kindOf x ≠ some .local →
    bindC kindOf (P.zip vs) m x = some v
  | [], _, _, _, _, h, _, _ => by simp at h
  | _ :: _, [], _, _, _, _, h, _ => by simp at h
  | p :: P, w :: vs, 0, m, nd, h1, h2, hk => by
    simp at h1 h2; subst h1; subst h2
    show bindC kindOf ((p, w) :: P.zip vs) m p = _
    unfold bindC
    rw [bindC_out fun v hv => (List.nodup_cons.mp nd).1 (List.of_mem_zip hv).1, if_neg hk]
    simp
  | p :: P, w :: vs, i + 1, m, nd, h1, h2, hk => by
    show bindC kindOf ((p, w) :: P.zip vs) m x = _
    unfold bindC
    exact bindC_get (i := i) (List.nodup_cons.mp nd).2 (by simpa using h1) (by simpa using h2) hk

/-- the names' values at the entry -/
def start (N : List Str) (vs : List V) : St := vs.map some ++ List.replicate (N.length - vs.length) none

/-- the context of a def's body, at its entry; an exception leaves the frame, then lies as CX says -/
def cxOf (CX : CXT) (P : Program) (w : World) (K : PySem.W.Frag) (mg : Str → Option Value) (base : Heap) (N : List Str) (qual : Str) (scope : Scope) (f : Addr) (cd : Value) (A : Around) (outer : List Env) (s : Shared) (H : Hp) (E : XK) : Cx where
  prog := P
  w := w
  K := K
  mg := mg
  base := base
  A := A.deeper (envOfC qual scope s.heap.objs.size f cd)
  N := N
  s₀ := s
  H₀ := H
  env := envOfC qual scope s.heap.objs.size f cd
  outer := outer
  stack := envOfC qual scope s.heap.objs.size f cd :: outer
  ex := []
  calm := true
  fn := fun _ => true
  pn := []
  xe := fun e s' => wpAny (model P w) (A.deeper (envOfC qual scope s.heap.objs.size f cd)) (leaving (envOfC qual scope s.heap.objs.size f cd) e) (fun _ s'' => CX outer H s E e s'') (fun e' s'' => CX outer H s E e' s'') s'

theorem cell_has {sc : Scope} {n : Nat} {x : Str} (h : sc.names.lookup x = some .cell) : ∃ c, (cellsFrom n sc.names []).lookup x = some c := by
  have q := PySem.W.cellsFrom_some sc.names n [] (.inl h)
  exact Option.isSome_iff_exists.mp q

theorem inv_start {CX : CXT} {P : Program} {w : World} {K : PySem.W.Frag} {mg : Str → Option Value} {base : Heap} {N ps : List Str} {qual : Str} {scope : Scope} {f : Addr} {cd : Value} {A : Around} {outer : List Env} {s s1 : Shared} {H : Hp} {E : XK} {us : List Value} {vs : List V}
    (S : FnScope N ps scope) (hd : A.handled = none) (e0 : Env0 P w K mg base A outer s H) (hl : vs.length = ps.length) (r : Vals vs us)
    (x : InCallC s s.heap.objs.size (bindL (envOfC qual scope s.heap.objs.size f cd).kindOf (ps.zip us) fun _ => none) (cellsFrom (s.heap.objs.size + 1) scope.names []) (bindC (envOfC qual scope s.heap.objs.size f cd).kindOf (ps.zip us) fun _ => none) s1) :
    Inv (cxOf CX P w K mg base N qual scope f cd A outer s H E) [] (start N vs) H s1 := by
  have hpl : ps.length ≤ N.length := by have := congrArg List.length S.pre; rw [List.length_take] at this; omega
  obtain ⟨h1, tk, rfl, hk⟩ := x.done
  have noA : ∀ b : Addr, b ∉ (cxOf CX P w K mg base N qual scope f cd A outer s H E).ex := fun b z => absurd (show b ∈ ([] : List Addr) from z) (by simp)
  refine ⟨⟨e0.mod, S.kind, rfl, rfl, Nat.le_refl _, fun y z c h1 h2 => ?_, fun y hy => ?_, fun y c _ h => ?_, fun _ => hd, Around.frames_deeper e0.frames, .inr ⟨rfl, rfl⟩, fun b z => absurd z (noA b), e0.bs, e0.bsz, fun b _ _ => noA b, fun b z => absurd z (noA b), e0.funs, e0.frf⟩,
    rfl, e0.bare, Un.kept hk, ⟨_, x.toInCall.ns, fun i y v h1 h2 h3 => ?_⟩, fun y c h => ⟨_, x.cell y c h⟩, e0.hok.fresh (Nat.le_refl _), fun y c h => ?_, fun p hp => absurd (show p ∈ ([] : List (Addr × Obj)) from hp) (by simp), e0.hok.kept hk, ?_⟩
  · exact name_of_addr x.apart (PySem.mem_of_lookup h1) (PySem.mem_of_lookup h2)
  · have hy : scope.names.lookup y = some .cell ∨ scope.names.lookup y = some .free := hy
    rcases hy with hy | hy
    · exact cell_has hy
    · exact absurd rfl (S.nofree _ (PySem.mem_of_lookup hy))
  · exact Nat.le_of_lt (x.above y c (PySem.mem_of_lookup h))
  · have hi : i < vs.length := by
      unfold start at h2
      by_cases hi : i < vs.length
      · exact hi
      · rw [List.getElem?_append_right (by simpa using hi)] at h2
        rw [List.getElem?_replicate] at h2
        split at h2 <;> cases h2
    have ha : vs[i]? = some v := by
      unfold start at h2
      rw [List.getElem?_append_left (by simpa using hi), List.getElem?_map] at h2
      cases e : vs[i]? with
      | none => rw [e] at h2; cases h2
      | some a => rw [e] at h2; cases h2; rfl
    obtain ⟨u, hu, rv⟩ := r.get ha
    have hp : ps[i]? = some y := by
      rw [← S.pre, List.getElem?_take_of_lt (by omega)]; exact h1
    have ndP : ps.Nodup := by rw [← S.pre]; exact S.nd.sublist (List.take_sublist _ _)
    refine ⟨u, rv, ?_⟩
    rcases S.par y (List.mem_of_getElem? hp) with k | k
    · exact .inl ⟨k, bindL_get ndP hp hu k⟩
    · obtain ⟨c, e⟩ := cell_has (n := s.heap.objs.size + 1) k
      refine .inr ⟨.inl k, c, e, ?_⟩
      have q := x.cell y c e
      rw [bindC_get ndP hp hu (by show scope.names.lookup y ≠ _; rw [k]; decide)] at q
      exact q
  · exact e0.hok.fresh (Nat.le_of_lt (x.above y c (PySem.mem_of_lookup h)))
  · unfold start
    show _ = N.length
    rw [List.length_append, List.length_map, List.length_replicate]
    omega

/-- THE RULE: a def (or a method) of the text, by its body. The body's reading t is chosen for each entry; it is run at the parameters' values -/
theorem fn_of {CX : CXT} {P : Program} {w : World} {K : PySem.W.Frag} {mg : Str → Option Value} {base : Heap} {k : Nat} {f : Addr} {name qual : Str} {params : Arguments} {body : List Stmt} {scope : Scope} {dV kV doc pm cdv ct oc : Value} {an od : Option Addr}
    {osl : Array (Option Value)} {N ps : List Str} {sp : Sp} (lk : K.lookup f = some ⟨oc, od, .func (PySem.W.fnOf name qual params body scope dV kV doc pm an cdv ct), osl⟩) (hcd : PySem.W.codeIn K cdv qual = true) (S : FnScope N ps scope)
    (len : ∀ vs H Q E, sp vs H Q E → vs.length = ps.length)
    (hbody : ∀ (A : Around) (outer : List Env) (s : Shared) (H : Hp) (vs : List V) (Q : VK) (E : XK), Room k (A.deeper (envOfC qual scope s.heap.objs.size f cdv)) → sp vs H Q E →
      ∃ t, PSs (cxOf CX P w K mg base N qual scope f cdv A outer s H E) body t ∧ t { nx := fun _ H' => Q .non H', rt := Q } (start N vs) H) :
    FnOk P w K mg base CX (k + 1) f (PySem.W.fnOf name qual params body scope dV kV doc pm an cdv ct) ps sp := by
  refine ⟨len, fun A outer s H args us vs Q E hr e0 hb r hsp => ?_⟩
  have hl := len _ _ _ _ hsp
  have KX : K.In s.heap := e0.mod.kin.keeps fun b o e => (e0.bs b o e).1
  have lim : s.heap.NoLimit := e0.mod.nolimit.keeps fun b o e => (e0.bs b o e).1
  have hkind : ∀ y ∈ ps.zip us, scope.names.lookup y.1 = some .local ∨ (scope.names.lookup y.1 = some .cell ∧ ((cellsFrom (s.heap.objs.size + 1) scope.names []).lookup y.1).isSome = true) := fun ⟨n, v⟩ hy => by
    rcases S.par n (List.of_mem_zip hy).1 with q | q
    · exact .inl q
    · exact .inr ⟨q, PySem.W.cellsFrom_some _ _ _ (.inl q)⟩
  refine codeAny_call_function hr.depth (KX _ _ lk) rfl S.co S.gen rfl (PySem.W.codeRec_of KX hcd) (hb _ _ _ _ ?_)
  refine wpAny_newFunctionEnv_cells S.kind hkind fun env he s1 x => ?_
  subst he
  refine ⟨lim.keeps x.toInCall.keep, codeAny_func ?_⟩
  obtain ⟨t, ht, hq⟩ := hbody A outer s H vs Q E (hr.deeper _) hsp
  have I : Inv (cxOf CX P w K mg base N qual scope f cdv A outer s H E) [] (start N vs) H s1 := inv_start S hr.hd e0 hl r x
  refine wpAny_mono (ht [] s1 (start N vs) H _ I hq) (fun fl s' hs => ?_) fun e s' hs => hs
  have fin : ∀ {σ' : St} {H' : Hp} {v : V} {u : Value}, Inv (cxOf CX P w K mg base N qual scope f cdv A outer s H E) [] σ' H' s' → RelV v u → Q v H' → CE outer P w H s Q u s' :=
    fun {σ' H' v u} J rv q => ⟨v, H', J.os, J.bare, J.base, J.hok, rv, q⟩
  cases fl with
  | ret u =>
    obtain ⟨v, σ', H', J, rv, q⟩ := hs
    exact fin J rv q
  | next =>
    obtain ⟨σ', H', J, q⟩ := hs
    exact fin (v := V.non) (u := Value.none) J rfl q
  | brk =>
    obtain ⟨_, _, _, q⟩ := hs
    exact False.elim q
  | cont =>
    obtain ⟨_, _, _, q⟩ := hs
    exact False.elim q
end L2

namespace L2
open PySem PySem.Spec PyProof.Rows
section
variable {X : Cx} {x : Str} {p pos : Pos} {e : Expr} {es : List Expr} {t : TA} {id T : String} {r : List V → Hp → VK → Prop}

def tCB (r : List V → Hp → VK → Prop) (t : TA) : TE := fun σ H Q => t σ H fun vs H1 => r vs H1 Q
/-- f(e, ..), f a built-in function -/
theorem pe_callB (hc : CallR X (.builtin id) r) (hg : Gl X x) (hm : X.mg x = none) (hv : bootBuiltins x = some (.builtin id)) (ha : PA X (e :: es) t) (hn : x ≠ "__name__" := by decide) (hdb : (x == ("__debug__" : Str)) = false := by decide)
    (he : starEach (e :: es) X.env = (false, eval e X.env) :: starEach es X.env := by rfl) (hpl : (backTo pos (starEach es X.env)).any (·.1) = false := by rfl) : PE X (.Call (.Name x p) (e :: es) [] pos) (tCB r t) := by
  intro pins s σ H Q I h
  refine wpAny_Call_Name_kw (ld_blt I hg hm hv ?_ hn hdb)
  exact PyProof.Rows.callWith_builtin1 (thn (ha pos pins s σ H _ I h) fun us s1 ⟨vs, H1, I1, r1, q1⟩ => hc pins s1 σ H1 vs us Q I1 r1 q1) he hpl
end
end L2

namespace HT
open PySem PyProof.Rows

section
open PySem.SeqAt
open PySem.AutoSeq1 (wpAny_loadPart')
open PySem.MeetsSeq PySem.MeetsSeq2 PySem.MeetsSeq3

end

section
variable {prog : Program} {w : World} {A : Around} {E : Value → Shared → Prop} {s : Shared}

/-! ### t[a:b], not the whole -/
/-- a slice's bound as a place among n (d where it is left out) -/
def sIx (n d : Nat) : Option Int → Nat
  | none => d
  | some v => if v < 0 then (v + (n : Int)).toNat else min v.toNat n
theorem sIx_le (n d : Nat) (hd : d ≤ n) (o : Option Int) : sIx n d o ≤ n := by
  cases o with
  | none => exact hd
  | some v =>
    show (if v < 0 then (v + (n : Int)).toNat else min v.toNat n) ≤ n
    by_cases hv : v < 0
    · rw [if_pos hv]; omega
    · rw [if_neg hv]; exact Nat.min_le_right _ _
end
end HT

namespace L2
open PySem PySem.Spec PyProof.Rows

/-! ### the parts of a slice -/
abbrev TO := St → Hp → (Option Int → Hp → Prop) → Prop
/-- a slice's part (left out, or an int) -/
def PO (X : Cx) (e : Option Expr) (t : TO) : Prop :=
  ∀ (pins : List (Addr × Obj)) (s : Shared) (σ : St) (H : Hp) (Q : Option Int → Hp → Prop), Inv X pins σ H s → t σ H Q →
    wpAny (model X.prog X.w) X.A (evalPart e X.env) (fun u s' => ∃ o H', Inv X pins σ H' s' ∧ IsPart u o ∧ Q o H') X.xe s
def tNoPart : TO := fun _ H Q => Q none H
def tPart (t : TE) : TO := fun σ H Q => t σ H fun x H1 => ∃ i, x = .int i ∧ Q (some i) H1

section
variable {X : Cx} {e : Expr} {te : TE} {lo hi : Option Expr} {tl th : TO} {pos p2 : Pos}

theorem po_none : PO X none tNoPart := by
  intro pins s σ H Q I h
  rw [evalPart_none]
  exact wpAny_pure ⟨none, H, I, .none, h⟩
theorem po_some (h : PE X e te) : PO X (some e) (tPart te) := by
  intro pins s σ H Q I hw
  rw [evalPart_some]
  refine thn (h pins s σ H _ I hw) fun u s1 ⟨x, H1, I1, r1, q1⟩ => ?_
  obtain ⟨i, rfl, q⟩ := q1
  obtain ⟨t, rfl⟩ := r1
  exact ⟨some i, H1, I1, .int i t, q⟩

/-- what a slice of a value is, by values: the slice object stands at sl -/
def SlR (X : Cx) (r : V → Option Int → Option Int → Hp → VK → Prop) : Prop :=
  ∀ (pins : List (Addr × Obj)) (s : Shared) (σ : St) (H : Hp) (x : V) (v vl vu : Value) (lo hi : Option Int) (sl : Addr) (Q : VK), Inv X pins σ H s → RelV x v → s.heap.IsSliceOf sl vl vu .none → IsPart vl lo → IsPart vu hi → r x lo hi H Q →
    ∃ T id, typeLookup (.type T) "__getitem__" = pure (some (.builtin id)) ∧ s.TypeIs v T ∧ wpAny (model X.prog X.w) X.A (getItem v (.ref sl)) (EP X pins σ Q) X.xe s
theorem SlR.or {r r' : V → Option Int → Option Int → Hp → VK → Prop} (h : SlR X r) (h' : SlR X r') : SlR X (fun x lo hi H Q => r x lo hi H Q ∨ r' x lo hi H Q) := by
  intro pins s σ H x v vl vu lo hi sl Q I rx hs pl pu q
  rcases q with q | q
  · exact h pins s σ H x v vl vu lo hi sl Q I rx hs pl pu q
  · exact h' pins s σ H x v vl vu lo hi sl Q I rx hs pl pu q
def tSl (r : V → Option Int → Option Int → Hp → VK → Prop) (te : TE) (tl th : TO) : TE := fun σ H Q => te σ H fun x H1 => tl σ H1 fun l H2 => th σ H2 fun u H3 => r x l u H3 Q
/-- a[lo:hi], any a -/
theorem pe_slice {r : V → Option Int → Option Int → Hp → VK → Prop} (hr : SlR X r) (he : PE X e te) (hl : PO X lo tl) (hu : PO X hi th) : PE X (.Subscript e (.Slice lo hi none p2) pos) (tSl r te tl th) := by
  intro pins s σ H Q I h
  refine Subscript_ (thn (he pins s σ H _ I h) fun v s1 ⟨x, H1, I1, r1, q1⟩ => ?_)
  refine wpAny_Slice (thn (hl pins s1 σ H1 _ I1 q1) fun vl s2 ⟨l, H2, I2, pl, q2⟩ => thn (hu pins s2 σ H2 _ I2 q2) fun vu s3 ⟨u, H3, I3, pu, q3⟩ => ?_)
  rw [evalPart_none]
  refine wpAny_pure ?_
  have I4 : Inv X pins σ H3 { s3 with heap := s3.heap.push { cls := .type "slice", data := .fields #[vl, vu, .none] } } := I3.kept (t' := s3.toks) fun b ob q => Heap.get?_push_of_some _ q
  obtain ⟨T, id, hT, ht, hg⟩ := hr pins { s3 with heap := s3.heap.push { cls := .type "slice", data := .fields #[vl, vu, .none] } } σ H3 x v vl vu l u s3.heap.objs.size Q I4 r1 (Heap.IsSliceOf.new ..) pl pu q3
  show wpAny (model X.prog X.w) X.A (subscriptTail e (.Slice lo hi none p2) v (.ref s3.heap.objs.size)) (EP X pins σ Q) X.xe { s3 with heap := s3.heap.push { cls := .type "slice", data := .fields #[vl, vu, .none] } }
  exact tail_any (ops := [.ref s3.heap.objs.size, v]) ht hT hg (by with_unfolding_all rfl)

/-- the items of xs[lo:hi] -/
def cutV (xs : List V) (lo hi : Option Int) : List V := (xs.drop (HT.sIx xs.length 0 lo)).take (HT.sIx xs.length xs.length hi - HT.sIx xs.length 0 lo)
theorem cutV_length (xs : List V) (lo hi : Option Int) : (cutV xs lo hi).length ≤ xs.length := by
  unfold cutV
  rw [List.length_take, List.length_drop]
  omega
/-! ### t < u, t + u -/
end
end L2

namespace L2
open PySem PySem.Spec PyProof.Rows

/-! ### places -/
/-- the place that an index of any sign means -/
def ixN (n : Nat) (i : Int) : Option Nat := if 0 ≤ i then (if i < n then some i.toNat else none) else if -(n : Int) ≤ i then some (i + n).toNat else none
def atI {α : Type} (xs : List α) (i : Int) : Option α := (ixN xs.length i).bind fun j => xs[j]?
theorem ixN_seq {n : Nat} {i : Int} {j : Nat} (h : ixN n i = some j) : seqIndex? i n = some j ∧ j < n ∧ -(n : Int) ≤ i ∧ i < n := by
  unfold ixN at h
  by_cases h0 : 0 ≤ i
  · rw [if_pos h0] at h
    by_cases h1 : i < n
    · rw [if_pos h1] at h
      have e : i.toNat = j := Option.some.inj h
      exact ⟨by rw [seqIndex_of h0 h1, e], by omega, by omega, h1⟩
    · rw [if_neg h1] at h; cases h
  · rw [if_neg h0] at h
    by_cases h1 : -(n : Int) ≤ i
    · rw [if_pos h1] at h
      have e : (i + n).toNat = j := Option.some.inj h
      exact ⟨by rw [seqIndex_neg (by omega) h1, e], by omega, h1, by omega⟩
    · rw [if_neg h1] at h; cases h
theorem atI_get {α : Type} {xs : List α} {i : Int} {v : α} (h : atI xs i = some v) : ∃ j, seqIndex? i xs.length = some j ∧ xs[j]? = some v ∧ j < xs.length ∧ -(xs.length : Int) ≤ i ∧ i < xs.length := by
  unfold atI at h
  cases e : ixN xs.length i with
  | none => rw [e] at h; cases h
  | some j =>
    rw [e] at h
    obtain ⟨h1, h2, h3, h4⟩ := ixN_seq e
    exact ⟨j, h1, h, h2, h3, h4⟩
theorem atI_nat {α : Type} {xs : List α} {j : Nat} {v : α} (h : xs[j]? = some v) : atI xs (j : Int) = some v := by
  have hj : j < xs.length := (List.getElem?_eq_some_iff.mp h).1
  have e : ixN xs.length (j : Int) = some j := by
    unfold ixN
    rw [if_pos (by omega), if_pos (by omega)]; simp
  unfold atI; rw [e]; exact h
theorem atI_last {α : Type} (xs : List α) (v : α) : atI (xs ++ [v]) (-1) = some v := by
  have hl : (xs ++ [v]).length = xs.length + 1 := by simp
  have e : ixN (xs ++ [v]).length (-1) = some xs.length := by
    unfold ixN
    rw [hl, if_neg (by decide), if_pos (by omega)]
    congr 1
    omega
  unfold atI
  rw [e]
  show (xs ++ [v])[xs.length]? = some v
  simp

/-! ### what may be subscripted -/
/-- what stands as an index of a plain subscript -/
def PlainIx (b : Expr) : Prop := ∀ o i, subscripted b false o i = operate [o, i] (getItem o i)
/-- a subscript by values -/
def IxR (X : Cx) (r : R2) : Prop :=
  ∀ (value slice : Expr) (pins : List (Addr × Obj)) (s : Shared) (σ : St) (H : Hp) (x y : V) (v u : Value) (Q : VK), Inv X pins σ H s → RelV x v → RelV y u → r x y H Q →
    subscripted slice false v u = operate [v, u] (getItem v u) → wpAny (model X.prog X.w) X.A (subscriptTail value slice v u) (EP X pins σ Q) X.xe s
/-- a call of a builtin's method by values: the receiver, the arguments -/
def MtR (X : Cx) (id : String) (r : V → List V → Hp → VK → Prop) : Prop :=
  ∀ (pins : List (Addr × Obj)) (s : Shared) (σ : St) (H : Hp) (x : V) (xs : List V) (v : Value) (us : List Value) (Q : VK), Inv X pins σ H s → RelV x v → Vals xs us → r x xs H Q →
    wpAny (model X.prog X.w) X.A (call (.builtin id) (v :: us)) (EP X pins σ Q) X.xe s
section
variable {X : Cx} {a b : Expr} {ta tb : TE} {pos : Pos}
theorem IxR.or {r r' : R2} (h : IxR X r) (h' : IxR X r') : IxR X (fun x y H Q => r x y H Q ∨ r' x y H Q) := by
  intro value slice pins s σ H x y v u Q I rx ry q hs
  rcases q with q | q
  · exact h value slice pins s σ H x y v u Q I rx ry q hs
  · exact h' value slice pins s σ H x y v u Q I rx ry q hs
theorem MtR.or {id : String} {r r' : V → List V → Hp → VK → Prop} (h : MtR X id r) (h' : MtR X id r') : MtR X id (fun x xs H Q => r x xs H Q ∨ r' x xs H Q) := by
  intro pins s σ H x xs v us Q I rx rs q
  rcases q with q | q
  · exact h pins s σ H x xs v us Q I rx rs q
  · exact h' pins s σ H x xs v us Q I rx rs q
/-- a[b] -/
theorem pe_ix {r : R2} (hr : IxR X r) (ha : PE X a ta) (hb : PE X b tb) (hs : PlainIx b) : PE X (.Subscript a b pos) (tOp r ta tb) := by
  intro pins s σ H Q I h
  exact Subscript_ (binT ha hb I h fun v u s2 x y H2 I2 rx ry q => hr a b pins s2 σ H2 x y v u Q I2 rx ry q (hs _ _))

def rIxL (K : PySem.W.Frag) : R2 := fun x y H Q => ∃ p xs i v, x = .ref p ∧ y = .int i ∧ SqL K H p xs ∧ atI xs i = some v ∧ Q v H
def rIxT (K : PySem.W.Frag) : R2 := fun x y H Q => ∃ p xs i v, x = .ref p ∧ y = .int i ∧ SqT K H p xs ∧ atI xs i = some v ∧ Q v H
def rIxS : R2 := fun x y H Q => ∃ z i c, x = .str z ∧ y = .int i ∧ z.length ≤ sizeLine ∧ atI z.cps.toList i = some c ∧ Q (.str ⟨#[c]⟩) H
theorem ix_list : IxR X (rIxL X.K) := by
  intro value slice pins s σ H x y v u Q I rx ry h hs
  obtain ⟨p, xs, i, z, rfl, rfl, hq, he, q⟩ := h
  cases rx
  obtain ⟨t, rfl⟩ := ry
  obtain ⟨its, r, pl, hz⟩ := I.list hq
  obtain ⟨j, h1, h2, h3, h4, h5⟩ := atI_get he
  obtain ⟨w, ew, rw'⟩ := r.get h2
  have hl := r.length
  have hn := line63
  have fin : EP X pins σ Q w s := ⟨z, H, I, rw', q⟩
  by_cases h0 : 0 ≤ i
  · have hj : i.toNat = j := by
      rw [seqIndex_of h0 h5] at h1
      exact Option.some.inj h1
    exact item_listR pl.isList h0 (by omega) (by rw [hj]; simpa using ew) fin hs
  · have hj : (i + (its.toArray.size : Int)).toNat = j := by
      rw [seqIndex_neg (by omega) h4] at h1
      rw [List.size_toArray, ← hl]
      exact Option.some.inj h1
    exact subscriptTail_builtinR (x := w) pl.isList.typeIs slot_list_getitem.lookup
      (wpAny_getItem_list_neg (Q := fun r s' => r = w ∧ EP X pins σ Q r s') pl.isList (by omega) (by rw [List.size_toArray] <;> omega) (by omega) (by rw [hj]; simpa using ew) ⟨rfl, fin⟩) hs
theorem ix_tup : IxR X (rIxT X.K) := by
  intro value slice pins s σ H x y v u Q I rx ry h hs
  obtain ⟨p, xs, i, z, rfl, rfl, hq, he, q⟩ := h
  cases rx
  obtain ⟨t, rfl⟩ := ry
  obtain ⟨its, r, pl, hz⟩ := I.tuple hq
  obtain ⟨j, h1, h2, h3, h4, h5⟩ := atI_get he
  obtain ⟨w, ew, rw'⟩ := r.get h2
  have hl := r.length
  have hn := line63
  have fin : EP X pins σ Q w s := ⟨z, H, I, rw', q⟩
  exact subscriptTail_builtinR (x := w) pl.typeIs slot_tuple_getitem.lookup
    (getItem_tuple (j := j) (Q := fun r s' => r = w ∧ EP X pins σ Q r s') pl (by omega) (by omega) (by rw [List.size_toArray, ← hl]; exact h1) (by simpa using ew) ⟨rfl, fin⟩) hs
theorem ix_str : IxR X rIxS := by
  intro value slice pins s σ H x y v u Q I rx ry h hs
  obtain ⟨z, i, c, rfl, rfl, hz, he, q⟩ := h
  obtain ⟨t, rfl⟩ := rx
  obtain ⟨t', rfl⟩ := ry
  obtain ⟨j, h1, h2, h3, h4, h5⟩ := atI_get he
  have hl : z.cps.toList.length = z.length := by simp [Str.length]
  rw [hl] at h1 h4 h5
  have hn := line63
  exact tail_any (typeIs_str s z t) slot_str_getitem.lookup (getItem_str (c := c) (by
    have e1 : decide (i < -(2 ^ 63 : Int)) = false := decide_eq_false (by omega)
    have e2 : decide (i ≥ 2 ^ 63) = false := decide_eq_false (by omega)
    rw [e1, e2, Bool.or_false]) (by rw [h1]; simpa using h2) ⟨.str ⟨#[c]⟩, H, I.tok _, ⟨_, rfl⟩, q⟩) hs
/-! ### xs[i] = v, any sign -/
theorem Inv.lst {pins : List (Addr × Obj)} {σ : St} {H : Hp} {s : Shared} {p : Addr} {xs : List V} (I : Inv X pins σ H s) (h : H p = some (.lst xs)) :
    ∃ (its : List Value) (n : Nat), Vals xs its ∧ s.heap.get? p = some { cls := .type "list", data := .seq its.toArray n } ∧ xs.length ≤ sizeLine := by
  obtain ⟨z, its, n, r, e⟩ := I.hok p _ h
  exact ⟨its, n, r, e, z⟩
/-! ### slices -/
theorem slice_bounds (lo hi : Option Int) (n : Nat) : (sliceBounds lo hi none n).1 = ((HT.sIx n 0 lo : Nat) : Int) ∧ (sliceBounds lo hi none n).2.1 = ((HT.sIx n n hi : Nat) : Int) ∧ (sliceBounds lo hi none n).2.2 = 1 := by
  refine ⟨?_, ?_, rfl⟩
  · cases lo with
    | none => simp [sliceBounds, HT.sIx]
    | some i =>
      simp only [sliceBounds, HT.sIx, Option.getD_none, show (1 : Int) > 0 by decide, if_true]
      by_cases h : i < 0
      · simp only [h, if_true] <;> omega
      · simp only [h, if_false] <;> omega
  · cases hi with
    | none => simp [sliceBounds, HT.sIx]
    | some i =>
      simp only [sliceBounds, HT.sIx, Option.getD_none, show (1 : Int) > 0 by decide, if_true]
      by_cases h : i < 0
      · simp only [h, if_true] <;> omega
      · simp only [h, if_false] <;> omega
theorem slicePick_cut (its : List Value) (lo hi : Option Int) : slicePick its.toArray lo hi none = ((its.drop (HT.sIx its.length 0 lo)).take (HT.sIx its.length its.length hi - HT.sIx its.length 0 lo)).toArray := by
  obtain ⟨h1, h2, h3⟩ := slice_bounds lo hi its.toArray.size
  unfold slicePick
  rw [h1, h2, h3]
  simp only [sliceRange_one, pick_run, List.size_toArray] <;> rfl
/-- xs[lo:hi] of a list: a new list -/
def rSlL (K : PySem.W.Frag) : V → Option Int → Option Int → Hp → VK → Prop := fun x lo hi H Q => ∃ a xs, x = .ref a ∧ SqL K H a xs ∧ ∀ p, H p = none → Q (.ref p) (upd H p (.lst (cutV xs lo hi)))
theorem sl_list : SlR X (rSlL X.K) := by
  intro pins s σ H x v vl vu lo hi sl Q I rx hs pl pu h
  obtain ⟨a, xs, rfl, hx, q⟩ := h
  cases rx
  obtain ⟨its, r, ht, hz⟩ := I.list hx
  have hlen := r.length
  refine ⟨"list", _, slot_list_getitem.lookup, ht.isList.typeIs, ?_⟩
  refine wpAny_getItem_list_slice ht.isList hs pl pu .none (by simp) ?_ (by rw [List.size_toArray] <;> omega)
  rw [slicePick_cut, ← hlen]
  refine ⟨.ref s.heap.objs.size, _, I.laid (t' := s.toks) (o := .lst (cutV xs lo hi)) (fun b ob q => Heap.get?_push_of_some _ q) (Nat.le_refl _) ?_, rfl, q _ (I.hok.fresh (Nat.le_refl _))⟩
  exact ⟨Nat.le_trans (cutV_length xs lo hi) hz, _, 0, (r.drop (HT.sIx xs.length 0 lo)).take (HT.sIx xs.length xs.length hi - HT.sIx xs.length 0 lo), Heap.get?_push_size _ rfl⟩

/-! ### in, not in: flat items -/
def flatV : V → Bool
  | .non => true
  | .bl _ => true
  | .int _ => true
  | .str _ => true
  | _ => false
/-- == of flat values -/
def eqV : V → V → Bool
  | .non, .non => true
  | .bl a, .bl b => a == b
  | .bl a, .int b => (if a then 1 else 0) == b
  | .int a, .bl b => a == (if b then 1 else 0)
  | .int a, .int b => a == b
  | .str a, .str b => a == b
  | _, _ => false
theorem eqAt_V {A : Around} {s : Shared} {y x : V} {u v : Value} (ry : RelV y u) (rx : RelV x v) (fy : flatV y = true) (fx : flatV x = true) : SeqAt.EqAt A s u v (eqV y x) := by
  cases y with
  | non =>
    cases ry
    cases x with
    | non => cases rx; exact SeqAt.EqAt.same _
    | bl b => cases rx; exact SeqAt.EqAt.none_bool b
    | int b => obtain ⟨t, rfl⟩ := rx; exact SeqAt.EqAt.none_int b t
    | str b => obtain ⟨t, rfl⟩ := rx; exact SeqAt.EqAt.none_str b t
    | _ => exact absurd (show false = true from fx) Bool.false_ne_true
  | bl a =>
    cases ry
    cases x with
    | non => cases rx; exact SeqAt.EqAt.bool_none a
    | bl b => cases rx; exact SeqAt.EqAt.bool_bool a b
    | int b => obtain ⟨t, rfl⟩ := rx; exact SeqAt.EqAt.bool_int a b t
    | str b => obtain ⟨t, rfl⟩ := rx; exact SeqAt.EqAt.bool_str a b t
    | _ => exact absurd (show false = true from fx) Bool.false_ne_true
  | int a =>
    obtain ⟨t', rfl⟩ := ry
    cases x with
    | non => cases rx; exact SeqAt.EqAt.int_none a t'
    | bl b => cases rx; exact SeqAt.EqAt.int_bool a t' b
    | int b => obtain ⟨t, rfl⟩ := rx; exact SeqAt.EqAt.int_int a t' b t
    | str b => obtain ⟨t, rfl⟩ := rx; exact SeqAt.EqAt.int_str a t' b t
    | _ => exact absurd (show false = true from fx) Bool.false_ne_true
  | str a =>
    obtain ⟨t', rfl⟩ := ry
    cases x with
    | non => cases rx; exact SeqAt.EqAt.str_none a t'
    | bl b => cases rx; exact SeqAt.EqAt.str_bool a t' b
    | int b => obtain ⟨t, rfl⟩ := rx; exact SeqAt.EqAt.str_int a t' b t
    | str b => obtain ⟨t, rfl⟩ := rx; exact SeqAt.EqAt.str_str a t' b t
    | _ => exact absurd (show false = true from fx) Bool.false_ne_true
  | _ => exact absurd (show false = true from fy) Bool.false_ne_true
/-- the items' answers, read off the values (a value's own answer does not lean on its token) -/
def eqU (x : V) (u : Value) : Bool := match u with
  | .none => eqV .non x
  | .bool b => eqV (.bl b) x
  | .int i _ => eqV (.int i) x
  | .str z _ => eqV (.str z) x
  | _ => false
theorem eqU_of {x y : V} {u : Value} (r : RelV y u) (f : flatV y = true) : eqU x u = eqV y x := by
  cases y with
  | non => cases r; rfl
  | bl b => cases r; rfl
  | int i => obtain ⟨t, rfl⟩ := r; rfl
  | str z => obtain ⟨t, rfl⟩ := r; rfl
  | _ => exact absurd (show false = true from f) Bool.false_ne_true
theorem mem_eqAt {A : Around} {s : Shared} {x : V} {v : Value} (rx : RelV x v) (fx : flatV x = true) : ∀ {xs : List V} {us : List Value}, Vals xs us → xs.all flatV = true → ∀ u ∈ us, SeqAt.EqAt A s u v (eqU x u)
  | _, _, .nil, _ => fun u hu => by cases hu
  | y :: xs, u :: us, .cons r t, f => fun u' hu => by
    rw [List.all_cons, Bool.and_eq_true] at f
    rcases List.mem_cons.mp hu with rfl | hu
    · rw [eqU_of r f.1]; exact eqAt_V r rx f.1 fx
    · exact mem_eqAt rx fx t f.2 u' hu
/-! ### len, list(x), tuple(x) of any list or tuple that is read -/
theorem call_len_seq : CallR X (.builtin "len") (fun xs H Q => ∃ p ys, xs = [.ref p] ∧ (SqL X.K H p ys ∨ SqT X.K H p ys) ∧ Q (.int ys.length) H) := by
  intro pins s σ H xs us Q I r h
  obtain ⟨p, ys, rfl, hq, q⟩ := h
  obtain ⟨u, rfl, rx⟩ := vals1 r
  cases rx
  have hn := line63
  rcases hq with hq | hq
  · obtain ⟨its, r', pl, hz⟩ := I.list hq
    have hlen := r'.length
    exact Calls.call_len_list pl.isList (by simp only [List.size_toArray] <;> omega) ⟨.int ys.length, H, I.tok _, ⟨s.toks + 1, by rw [List.size_toArray, hlen]⟩, q⟩
  · obtain ⟨its, r', pl, hz⟩ := I.tuple hq
    have hlen := r'.length
    exact len_tuple pl (by simp only [List.size_toArray] <;> omega) ⟨.int ys.length, H, I.tok _, ⟨s.toks + 1, by rw [List.size_toArray, hlen]⟩, q⟩
theorem call_len_str : CallR X (.builtin "len") (fun xs H Q => ∃ z, xs = [.str z] ∧ z.length ≤ sizeLine ∧ Q (.int z.length) H) := by
  intro pins s σ H xs us Q I r h
  obtain ⟨z, rfl, hz, q⟩ := h
  obtain ⟨u, rfl, t, rfl⟩ := vals1 r
  have hn := line63
  exact len_str (by omega) ⟨.int z.length, H, I.tok _, ⟨_, rfl⟩, q⟩
theorem CallR.or {f : Value} {r r' : List V → Hp → VK → Prop} (h : CallR X f r) (h' : CallR X f r') : CallR X f (fun xs H Q => r xs H Q ∨ r' xs H Q) := by
  intro pins s σ H xs us Q I rs q
  rcases q with q | q
  · exact h pins s σ H xs us Q I rs q
  · exact h' pins s σ H xs us Q I rs q
/-! ### the call of a builtin's method: o.m(..) -/
/-- the value is of that builtin type -/
def tyV (K : PySem.W.Frag) (T : String) (x : V) (H : Hp) : Prop := match x with
  | .str _ => T = "str"
  | .int _ => T = "int"
  | .ref p => (T = "list" ∧ ∃ xs, SqL K H p xs) ∨ (T = "tuple" ∧ ∃ o, K.lookup p = some o ∧ o.cls = .type "tuple" ∧ o.dict = none) ∨
      (T = "dict" ∧ ((∃ kvs, H p = some (.dK kvs)) ∨ ∃ kvs, H p = some (.dT kvs))) ∨ (T = "set" ∧ ∃ S n, H p = some (.set S n))
  | _ => False
theorem tyV_is {pins : List (Addr × Obj)} {σ : St} {H : Hp} {s : Shared} {T : String} {x : V} {v : Value} (I : Inv X pins σ H s) (r : RelV x v) (ty : tyV X.K T x H) :
    s.TypeIs v T ∧ ∀ a, v = .ref a → ∃ ob, s.heap.get? a = some ob ∧ ob.dict = none := by
  cases x with
  | str z =>
    obtain ⟨t, rfl⟩ := r
    cases (show T = "str" from ty)
    exact ⟨typeIs_str s z t, fun _ e => nomatch e⟩
  | int i =>
    obtain ⟨t, rfl⟩ := r
    cases (show T = "int" from ty)
    exact ⟨typeIs_int s i t, fun _ e => nomatch e⟩
  | ref p =>
    cases r
    rcases ty with ⟨rfl, xs, hq⟩ | ⟨rfl, o, hk, hc, hd⟩ | ⟨rfl, hk⟩ | ⟨rfl, S, n, hk⟩
    · obtain ⟨its, _, pl, _⟩ := I.list hq
      refine ⟨pl.isList.typeIs, fun a e => ?_⟩
      cases e
      obtain ⟨o, n, e, c, hd, _⟩ := pl
      exact ⟨o, e, hd⟩
    · refine ⟨⟨o, I.kIn p o hk, hc⟩, fun a e => ?_⟩
      cases e
      exact ⟨o, I.kIn _ o hk, hd⟩
    · have z : ∃ o, s.heap.get? p = some o ∧ o.ExactDict := by
        rcases hk with ⟨kvs, hk⟩ | ⟨kvs, hk⟩
        · obtain ⟨_, _, _, _, o, _, _, e, ex, _⟩ := I.hok p _ hk
          exact ⟨o, e, ex⟩
        · obtain ⟨_, _, _, _, o, _, _, e, ex, _⟩ := I.hok p _ hk
          exact ⟨o, e, ex⟩
      obtain ⟨o, e, ex⟩ := z
      refine ⟨⟨o, e, ex.1⟩, fun a e2 => ?_⟩
      cases e2
      exact ⟨o, e, ex.2.1⟩
    · obtain ⟨o, _, _, _, e, ex, _⟩ := I.hok p _ hk
      refine ⟨⟨o, e, ex.1⟩, fun a e2 => ?_⟩
      cases e2
      exact ⟨o, e, ex.2.1⟩
  | _ => exact False.elim ty
def tBM (K : PySem.W.Frag) (T : String) (r : V → List V → Hp → VK → Prop) (to : TE) (t : TA) : TE := fun σ H Q => to σ H fun x H1 => tyV K T x H1 ∧ t σ H1 fun xs H2 => r x xs H2 Q
variable {o e : Expr} {es : List Expr} {to : TE} {t : TA} {name : Str} {apos cpos : Pos} {T id : String} {r : V → List V → Hp → VK → Prop}
theorem pe_bm (pa : PlainAttrs T) (slot : Slot T name id) (hty : typeOf (.builtin id) = pure (.type "method_descriptor")) (hm : MtR X id r) (ho : PE X o to) (ha : PA X (e :: es) t)
    (hbase : attributeBase o name X.env (eval o X.env) = eval o X.env := by rfl)
    (hfew : ((backTo cpos (starEach (e :: es) X.env)).all (fun x => !x.1) && (backToKw cpos (keywordEach [] X.env)).all (fun x => x.1.isSome)
      && decide ((e :: es).length + ([] : List Keyword).length + (if ([] : List Keyword).isEmpty then 0 else 1) < 30)) = true := by rfl)
    (hline : (apos.endLine == cpos.line) = true := by rfl) (hs : starEach (e :: es) X.env = (false, eval e X.env) :: starEach es X.env := by rfl) (hplain : (backTo cpos (starEach es X.env)).any (·.1) = false := by rfl) :
    PE X (.Call (.Attribute o name apos) (e :: es) [] cpos) (tBM X.K T r to t) := by
  intro pins s σ H Q I h
  refine wpAny_Call_method_late hbase hfew hline rfl (thn (ho pins s σ H _ I h) fun v s1 ⟨x, H1, I1, r1, ty, q1⟩ => ?_)
  obtain ⟨h1, h2⟩ := tyV_is I1 r1 ty
  refine ⟨T, id, pa, slot, hty, h1, h2, ?_⟩
  have hA := ha cpos pins s1 σ H1 _ I1 q1
  rw [hs] at hA ⊢
  refine Calls.callWith_builtin (by show (false || (backTo cpos (starEach es X.env)).any (·.1)) = false; rw [hplain] <;> rfl) (Calls.evalArgs_plain ?_)
  exact thn hA fun us s2 ⟨vs, H2, I2, r2, q2⟩ => hm pins s2 σ H2 x vs v us Q I2 r1 r2 q2
/- xs.append(e), list.index on a module's tuple .. are MtR facts of 06m -/
end
end L2

namespace L2
open PySem PySem.Spec PyProof.Rows

def MtM (X : Cx) (id : String) (r : V → List V → Hp → VK → Prop) : Prop :=
  ∀ (pins : List (Addr × Obj)) (s : Shared) (σ : St) (H : Hp) (x : V) (xs : List V) (v : Value) (us : List Value) (Q : VK), Inv X pins σ H s → RelV x v → Vals xs us → r x xs H Q →
    wpAny (model X.prog X.w) X.A (call (.builtin id) (v :: us)) (EP X pins σ Q) X.xe s

/-! ### lists of values -/
theorem Vals.one : ∀ {x : V} {us : List Value}, Vals [x] us → ∃ u, us = [u] ∧ RelV x u
  | _, _, .cons r .nil => ⟨_, rfl, r⟩
theorem Vals.two : ∀ {x y : V} {us : List Value}, Vals [x, y] us → ∃ u v, us = [u, v] ∧ RelV x u ∧ RelV y v
  | _, _, _, .cons r (.cons q .nil) => ⟨_, _, rfl, r, q⟩
theorem Vals.zero : ∀ {us : List Value}, Vals [] us → us = []
  | _, .nil => rfl
theorem Vals.dropLast {xs : List V} {us : List Value} (h : Vals xs us) : Vals xs.dropLast us.dropLast := by
  induction h with
  | nil => exact .nil
  | cons r t ih =>
    cases t with
    | nil => exact .nil
    | cons q t' => exact .cons r ih
section
variable {X : Cx} {pins : List (Addr × Obj)} {σ : St} {H : Hp} {s : Shared} {l b : Addr} {xs ys zs : List V}

/-! ### the two steps: a tracked list is rewritten, a new list is laid -/
theorem Inv.lset {its its' : List Value} {n : Nat} {f : Array Value → Array Value} {t' : Nat} (I : Inv X pins σ H s) (hH : H l = some (.lst xs))
    (e : s.heap.get? l = some { cls := .type "list", data := .seq its.toArray n }) (hf : f its.toArray = its'.toArray) (hv : Vals ys its') (hz : ys.length ≤ sizeLine) :
    Inv X pins σ (upd H l (.lst ys)) { s with heap := s.heap.update l (Obj.mapSeq f), toks := t' } := by
  have q := PySem.IsL.update e f
  rw [hf] at q
  refine I.write (x := l) (e := l) (by rw [hH]; exact trivial) (.inl rfl) (fun b' u hb hu => (Heap.get?_update_other s.heap (Obj.mapSeq f) (Ne.symm hb)).trans hu) ⟨_, q⟩ ?_
  exact ⟨hz, its', _, hv, q⟩
theorem Inv.lnew {its : List Value} {t' : Nat} (I : Inv X pins σ H s) (hv : Vals ys its) (hz : ys.length ≤ sizeLine) :
    Inv X pins σ (upd H s.heap.objs.size (.lst ys)) { s with heap := s.heap.push { cls := .type "list", data := .seq its.toArray }, toks := t' } :=
  I.laid (fun _ _ q => Heap.get?_push_of_some _ q) (Nat.le_refl _) ⟨hz, its, 0, hv, Heap.get?_push_size _ rfl⟩
theorem Inv.fresh (I : Inv X pins σ H s) : H s.heap.objs.size = none := I.hok.fresh (Nat.le_refl _)
theorem Inv.lstM (I : Inv X pins σ H s) (hH : H l = some (.lst xs)) : xs.length ≤ sizeLine ∧ ∃ (its : List Value) (n : Nat), Vals xs its ∧ xs.length = its.length ∧ s.heap.get? l = some { cls := .type "list", data := .seq its.toArray n } := by
  obtain ⟨z, its, n, r, e⟩ := I.hok l _ hH
  exact ⟨z, its, n, r, r.length, e⟩

theorem notLongL {n : Nat} (h : n ≤ sizeLine) : Builtin.List.listTooLong n = false := by
  unfold Builtin.List.listTooLong
  exact decide_eq_false (by omega)
end

section
variable {X : Cx}

/-! ### methods -/
def rAppend : V → List V → Hp → VK → Prop := fun x vs H Q => ∃ l xs y, x = .ref l ∧ vs = [y] ∧ H l = some (.lst xs) ∧ xs.length < sizeLine ∧ Q .non (upd H l (.lst (xs ++ [y])))
theorem mt_append : MtM X "list.append" rAppend := by
  intro pins s σ H x vs v us Q I rx rv h
  obtain ⟨l, xs, y, rfl, rfl, hH, hz, q⟩ := h
  cases rx
  obtain ⟨u, rfl, ru⟩ := rv.one
  obtain ⟨z, its, n, r, hl, e⟩ := I.lstM hH
  refine call_meets F.slot_list_append ⟨_, e, rfl⟩ F.entry_list_append (F.args_list_append_2 _ _) (PySem.list_append l its.toArray n u (by rw [List.size_toArray]; omega)) ⟨e, ?_⟩
  refine ⟨.non, _, I.lset (its' := its ++ [u]) hH e (by simp) (r.append (.cons ru .nil)) ?_, rfl, q⟩
  rw [List.length_append, List.length_singleton]
  omega

def rExtend : V → List V → Hp → VK → Prop := fun x vs H Q => ∃ l b xs zs, x = .ref l ∧ vs = [.ref b] ∧ H l = some (.lst xs) ∧ H b = some (.lst zs) ∧ xs.length + zs.length ≤ sizeLine ∧ Q .non (upd H l (.lst (xs ++ zs)))
theorem mt_extend : MtM X "list.extend" rExtend := by
  intro pins s σ H x vs v us Q I rx rv h
  obtain ⟨l, b, xs, zs, rfl, rfl, hH, hB, hz, q⟩ := h
  cases rx
  obtain ⟨u, rfl, ru⟩ := rv.one
  cases ru
  obtain ⟨z, its, n, r, hl, e⟩ := I.lstM hH
  obtain ⟨z2, its2, n2, r2, hl2, e2⟩ := I.lstM hB
  have hsz : its.toArray.size + its2.toArray.size ≤ sizeLine := by rw [List.size_toArray, List.size_toArray]; omega
  have hlong : ¬ (!its.toArray.isEmpty && Builtin.List.listTooLong (its.toArray.size + its2.toArray.size)) = true := by
    rw [notLongL hsz, Bool.and_false]
    exact Bool.false_ne_true
  refine call_meets F.slot_list_extend ⟨_, e, rfl⟩ F.entry_list_extend (F.args_list_extend_2 _ _)
    (AutoSeq1.list_extend_list_list_0 l its.toArray n b its2.toArray n2 hlong (by rw [List.size_toArray]; omega) (by omega)) ⟨e, e2, ?_⟩
  refine ⟨.non, _, I.lset (its' := its ++ its2) hH e (by simp) (r.append r2) ?_, rfl, q⟩
  rw [List.length_append]
  omega

/-! ### list + list, list += list, list * int -/
def rCat : R2 := fun x y H Q => ∃ l b xs zs, x = .ref l ∧ y = .ref b ∧ H l = some (.lst xs) ∧ H b = some (.lst zs) ∧ xs.length + zs.length ≤ sizeLine ∧ ∀ p, H p = none → Q (.ref p) (upd H p (.lst (xs ++ zs)))
theorem op_cat : OpR X (binaryOp .Add) rCat := by
  intro pins s σ H x y v u Q I rx ry h
  obtain ⟨l, b, xs, zs, rfl, rfl, hH, hB, hz, q⟩ := h
  cases rx
  cases ry
  obtain ⟨z, its, n, r, hl, e⟩ := I.lstM hH
  obtain ⟨z2, its2, n2, r2, hl2, e2⟩ := I.lstM hB
  refine PySem.P.add_list e e2 ?_ (by rw [List.size_toArray, List.size_toArray]; omega)
  have ea : its.toArray ++ its2.toArray = (its ++ its2).toArray := by simp
  rw [ea]
  exact ⟨.ref _, _, I.lnew (t' := s.toks) (r.append r2) (by rw [List.length_append]; omega), rfl, q _ I.fresh⟩
/-! ### del xs[i] -/
end

/-! ### xs[a:b] = ys -/
section
variable {prog : Program} {w : World} {A : Around} {E : Value → Shared → Prop} {s : Shared}
end

section
variable {X : Cx}
end
end L2

namespace Att
open PySem PySem.W PySem.Calls PyProof.Rows

/-! ### the script -/
theorem ints_of_wellAll {P : Params} {h : Heap} : ∀ (ns : List Int) (vs : List Value), WellAll P h vs (ns.map WData.int) → IntsAre vs ns := by
  intro ns
  induction ns with
  | nil =>
    intro vs w
    rw [List.map_nil] at w
    cases w
    exact .nil
  | cons n ns ih =>
    intro vs w
    rw [List.map_cons] at w
    cases w with
    | cons a b =>
      cases a
      exact .cons _ _ (ih _ b)

theorem script_of {l : OpenLaw} {n : Nat} (hn : l.most = some n) {P : Params} {h : Heap} {args : List WData} {vals : List Value}
    (hpre : l.row.toRowW.claim.pre args = true) (hwl : WellAll P h vals args) :
    ∃ a vs ns, vals = [Value.ref a] ∧ args = [WData.list (ns.map WData.int)] ∧ h.get? a = some { cls := .type "list", data := .seq vs.toArray } ∧ IntsAre vs ns ∧ ns.length ≤ n := by
  have hsh : WShape.hasAll [] args [.list .int] = true := (pre_splitW hpre).1
  have hc : l.pre.holds [] { args := args } = true := (pre_splitW hpre).2
  obtain ⟨d, r, rfl, h1, h2⟩ := hasAllW_cons hsh
  obtain rfl := hasAllW_nil h2
  obtain ⟨xs, rfl, h3⟩ := hasW_list h1
  obtain ⟨ns, rfl⟩ := items_int h3
  have hlen : ns.length ≤ n := by
    unfold OpenLaw.pre at hc
    have h4 : (WTm.not (.lt (.lit (.int (n : Int))) (.len (.arg 0)))).holds [] { args := [.list (ns.map .int)] } = true := by
      have h4 := (holds_andW hc).1
      rw [hn] at h4
      exact h4
    have h5 := condW_of h4 (w_not (w_lt w_lit (w_len_list (w_arg rfl))))
    rw [List.length_map] at h5
    refine Nat.le_of_not_lt fun q => ?_
    have q' : (n : Int) < ((ns.length : Nat) : Int) := by omega
    first
      | (rw [decide_eq_true q'] at h5; exact absurd h5 (by decide))
      | (simp at h5; omega)
  cases hwl with
  | cons w1 w2 =>
    cases w2
    cases w1 with
    | list ho hall => exact ⟨_, _, ns, rfl, rfl, ho, ints_of_wellAll ns _ hall, hlen⟩

theorem post_true (l : OpenLaw) (args : List WData) : l.row.toRowW.claim.post args (.bool true) args = true :=
  postW_of (r := l.row.toRowW) (X := (true == true))
    (show WShape.has [] (.bool true) .bool = true by first | rfl | decide | simp [WShape.has, WShape.arms, WShape.armsAll])
    (show (WTm.eq .res (.lit (.bool true))).value [] { args := args, res := some (.bool true), after := args } = some (.bool (true == true)) from w_eq_bool (w_res rfl) w_lit) rfl

/-! ### the attachment: holds_open's last premise (the goal 'hc' behind k_head) from a wpAny of the law's body -/
/-- the same from a codeAny of the CALL (for a layer whose function contracts speak of calls) -/
theorem attach_call {l : OpenLaw} {n : Nat} {q : Program} {loose : List Str} {XP : (Str → Option Value) → Heap → Prop} {YP : World → Heap → Prop} {d : DefRec}
    (hn : l.most = some n) (hdf : d.params.defaults = [])
    (call : ∀ (w : World) (s₀ s₁ : Shared) (mg mb : Str → Option Value) (fa : Addr) (o : Obj) (pm cd doc : Value) (a : Addr) (vs : List Value) (ns : List Int),
      Ground q loose [] XP w s₀ mg mb s₁.heap → YP w s₁.heap →
      s₁.heap.get? fa = some o → o.data = .func (docDef d.name d.params d.body d.scope pm cd doc) → s₁.heap.CodeRec cd d.name → mg d.name = some (.ref fa) →
      s₁.heap.get? a = some { cls := .type "list", data := .seq vs.toArray } → IntsAre vs ns → ns.length ≤ n → s₁.gens = #[] →
      codeAny (model l.prog w) callerA (.call (.ref fa) ⟨[.ref a], []⟩) (fun r s' => r = .ok (.ret (.bool true)) ∧ OldK s₁.heap s'.heap ∧ s'.os = s₁.os ∧ AllBare s'.gens) s₁) :
    WalkO q loose XP YP l.row.toRowW d [] (fun f vs => PySem.call f vs) := by
  intro w s₀ s₁ mg mb G Y fa o pm cd doc dV kV ho hd hcd hD hmg hg args vals as hpre hlay hrd hwl hlo
  obtain rfl : dV = .none := Dflts.none hD hdf
  obtain rfl : kV = .none := Dflts.noKw hD
  obtain ⟨a, vs, ns, rfl, rfl, hobj, hints, hlen⟩ := script_of hn hpre hwl
  refine enter_call (codeAny_mono (call w s₀ s₁ mg mb fa o pm cd doc a vs ns G Y ho (fd_plain hd) hcd hmg hobj hints hlen hg) fun r s' hq => ?_)
  obtain ⟨rfl, h2, h3, h4⟩ := hq
  exact ⟨.inl ⟨.bool true, .bool true, [], rfl, fun _ => rfl, .bool true, post_true l _, fun _ => ⟨List.Pairwise.nil, fun _ hm => (nomatch hm)⟩⟩, h2, h3, h4⟩

/-! ### rules over ANY heap (no ledger) from facts about the written part K: the library's own take a ledger (News) for what they write -/
section
variable {prog : Program} {w : World} {A : Around} {E : Value → Shared → Prop} {s : Shared} {K : Frag}

/-! the whole heap as the ledger: makes every rule that writes through a ledger a rule over any heap -/
def ledger (h : Heap) (L d : Addr) : List (Addr × Obj) := (List.range h.objs.size).filterMap fun a => if a = L ∨ a = d then none else (h.get? a).map fun o => (a, o)
end
end Att

namespace L2
open PySem PySem.Spec PyProof.Rows

theorem vals_ints : ∀ {vs : List Value} {ns : List Int}, IntsAre vs ns → Vals (ns.map V.int) vs
  | _, _, .nil => .nil
  | _, _, .cons n t h => .cons ⟨t, rfl⟩ (vals_ints h)

/-- nothing is tracked but the script, known to the object (or it is an object of the module) -/
def Only (H : Hp) : Prop := ∀ b, H b = none ∨ ∃ o xs, H b = some (.frz o (.lst xs))

/-- THE HEAD: the law's promise, at the heap behind the top. F, the promise of the law's def, may use that base is part of the heap (so K.In base, base.Ns mainGlobals mg stand in Mod) -/
theorem law_call {P : Program} {w : World} {K : PySem.W.Frag} {mg mb : Str → Option Value} {CX : CXT} {k : Nat} {fa a : Addr} {fd : FuncData} {x : Str} {sp : Sp} {s₁ : Shared} {vs : List Value} {ns : List Int}
    (KX : K.In s₁.heap) (hns : s₁.heap.Ns mainGlobals mg) (hb : s₁.heap.Ns builtinsNs mb) (hbb : ∀ x : Str, x ≠ "__name__" → mb x = bootBuiltins x) (hlim : s₁.heap.NoLimit) (hg : s₁.gens = #[])
    (ha : s₁.heap.get? a = some { cls := .type "list", data := .seq vs.toArray }) (hi : IntsAre vs ns) (hl : ns.length ≤ sizeLine) (hr : Room k callerA)
    (F : ∀ base : Heap, K.In base → base.Ns mainGlobals mg → FnOk P w K mg base CX k fa fd [x] sp) (hbind : ∀ (s : Shared) (u : Value), BindsTo s fd ⟨[u], []⟩ [(x, u)])
    (hsp : ∀ H : Hp, Only H → SqL K H a (ns.map V.int) → sp [.ref a] H (fun v _ => v = .bl true) fun _ _ _ => False)
    (hCX : ∀ H e s', CX [] H s₁ (fun _ _ _ => False) e s' → False) :
    codeAny (model P w) callerA (.call (.ref fa) ⟨[.ref a], []⟩) (fun r s' => r = .ok (.ret (.bool true)) ∧ OldK s₁.heap s'.heap ∧ s'.os = s₁.os ∧ AllBare s'.gens) s₁ := by
  have rv := vals_ints hi
  have lenV := hi.length
  -- from an abstract heap in which nothing but the script may be tracked
  have core : ∀ H : Hp, Only H → SqL K H a (ns.map V.int) → HOk P w H s₁.heap → (∀ b, H b ≠ none → b = a) → (H a ≠ none → K.lookup a = none) →
      codeAny (model P w) callerA (.call (.ref fa) ⟨[.ref a], []⟩) (fun r s' => r = .ok (.ret (.bool true)) ∧ OldK s₁.heap s'.heap ∧ s'.os = s₁.os ∧ AllBare s'.gens) s₁ := by
    intro H hO hS hok hA hK
    have base_of : ∀ {b : Addr} {o : Obj}, s₁.heap.get? b = some o → H b = none → (hidT s₁.heap H).get? b = some o := fun e n => hidT_get e n
    have noA : ∀ {b : Addr} {o : Obj} {es : Array DictEntry} {ep : Nat}, s₁.heap.get? b = some o → o.data = .dict es ep → H b = none := fun {b o es ep} e d => by
      cases q : H b with
      | none => rfl
      | some u =>
        have e' : b = a := hA b (by rw [q]; simp)
        subst e'
        rw [ha] at e; cases e
        have d' : Data.seq vs.toArray _ = Data.dict es ep := d
        cases d'
    have nsK : ∀ {b : Addr} {m : Str → Option Value}, s₁.heap.Ns b m → (hidT s₁.heap H).Ns b m := fun {b m} ⟨o, es, ep, e, d, r⟩ => ⟨o, es, ep, base_of e (noA e d), d, r⟩
    have hKb : K.In (hidT s₁.heap H) := fun b o e => base_of (KX b o e) (by
      cases q : H b with
      | none => rfl
      | some u =>
        have e' : b = a := hA b (by rw [q]; simp)
        subst e'
        rw [hK (by rw [q]; simp)] at e; cases e)
    have hM : Mod K mg (hidT s₁.heap H) := ⟨hKb, nsK hns, ⟨mb, nsK hb, hbb⟩, let ⟨mc, h1, h2⟩ := hlim; ⟨mc, nsK h1, h2⟩⟩
    have e0 : Env0 P w K mg (hidT s₁.heap H) callerA [] s₁ H := ⟨rfl, hM, fun b o e => of_hidT e, Nat.le_of_eq (hidT_size _ _), trivial, fun b hb => absurd (show b ∈ ([] : List Addr) from hb) (by simp), hok, .of_eq hg⟩
    refine codeAny_mono ((F _ hKb (nsK hns)).run callerA [] s₁ H ⟨[.ref a], []⟩ [.ref a] [.ref a] _ _ hr e0 (hbind s₁ (.ref a)) (.cons rfl .nil) (hsp H hO hS)) fun r s' h => ?_
    cases r with
    | error e => exact (hCX H e s' h).elim
    | ok fl =>
      cases fl with
      | next => exact False.elim h
      | brk => exact False.elim h
      | cont => exact False.elim h
      | ret u =>
        obtain ⟨v, H', os, bare, un, hok', r', q⟩ := h
        have q' : v = .bl true := q
        subst q'
        obtain rfl : u = Value.bool true := r'
        refine ⟨rfl, OldK.of_keep fun b o e => ?_, os, bare⟩
        cases q : H b with
        | none => exact un.keep b o e q (by intro z; exact absurd (show b ∈ ([] : List Addr) from z) (by simp)) (by simp)
        | some u =>
          rcases hO b with z | ⟨ob, xs, z⟩
          · rw [q] at z; cases z
          · have z2 := un.frzs b ob _ z
            obtain ⟨e1, _⟩ := hok b _ z
            obtain ⟨e2, _⟩ := hok' b _ z2
            rw [e] at e1; cases e1
            exact e2
  cases hk : K.lookup a with
  | some o =>
    -- the script is one of the module's own objects
    have e := KX a o hk
    rw [ha] at e
    cases e
    refine core (fun _ => none) (fun _ => .inl rfl) (.inr ⟨_, vs.toArray, _, hk, rfl, rfl, rfl, by rw [List.size_toArray, lenV]; exact hl, by simpa using rv⟩) (fun b u z => by have z' : (none : Option HO) = some u := z; cases z') (fun b z => absurd rfl z) fun z => absurd rfl z
  | none =>
    refine core (fun b => if b = a then some (.frz { cls := .type "list", data := .seq vs.toArray } (.lst (ns.map V.int))) else none) (fun b => ?_) (.inl (.inr ⟨{ cls := .type "list", data := .seq vs.toArray }, if_pos rfl⟩)) (fun b u z => ?_) (fun b z => ?_) fun _ => hk
    · by_cases hb : b = a
      · exact .inr ⟨_, _, if_pos hb⟩
      · exact .inl (if_neg hb)
    · by_cases hb : b = a
      · have z' := (if_pos hb).symm.trans z
        cases z'
        subst hb
        exact ⟨ha, by rw [List.length_map]; exact hl, vs, _, rv, ha⟩
      · have z' := (if_neg hb).symm.trans z
        cases z'
    · by_cases hb : b = a
      · exact hb
      · exact absurd (if_neg hb) z
end L2

namespace L2
open PySem PySem.Spec PyProof.Rows

/-- the goal that k_head leaves (case hc), from the law's promise. F gives the function object fd (K's own) once, then the promise over every base -/
theorem walk_of {l : PySem.W.OpenLaw} {n k : Nat} {q : Program} {loose : List Str} {XP : (Str → Option Value) → Heap → Prop} {YP : World → Heap → Prop} {d : DefRec} {K : Params → PySem.W.Frag} {CX : World → CXT} {sp : World → Sp} {x : Str}
    (hn : l.most = some n) (hn2 : n ≤ sizeLine) (hdf : d.params.defaults = []) (hr : Room k callerA)
    (hY : ∀ (w : World) (h : Heap), YP w h → (K w.params).In h)
    (F : ∀ (w : World) (mg : Str → Option Value) (fa : Addr) (h : Heap), (K w.params).In h → h.Ns mainGlobals mg → mg d.name = some (.ref fa) →
      ∃ fd : FuncData, (∀ (s : Shared) (u : Value), BindsTo s fd ⟨[u], []⟩ [(x, u)]) ∧
        ∀ base : Heap, (K w.params).In base → base.Ns mainGlobals mg → FnOk l.prog w (K w.params) mg base (CX w) k fa fd [x] (sp w))
    (hsp : ∀ (w : World) (H : Hp) (a : Addr) (ns : List Int), ns.length ≤ n → Only H → SqL (K w.params) H a (ns.map V.int) → sp w [.ref a] H (fun v _ => v = .bl true) fun _ _ _ => False)
    (hCX : ∀ (w : World) (H : Hp) (s : Shared) (e : Value) (s' : Shared), CX w [] H s (fun _ _ _ => False) e s' → False) :
    PySem.W.WalkO q loose XP YP l.row.toRowW d [] (fun f vs => PySem.call f vs) := by
  refine Att.attach_call hn hdf fun w s₀ s₁ mg mb fa o pm cd doc a vs ns G Y ho hd hcd hmg hobj hints hlen hg => ?_
  have KX := hY w _ Y
  obtain ⟨fd, hb, hF⟩ := F w mg fa _ KX G.T.g hmg
  exact law_call KX G.T.g G.T.b G.T.builtins G.T.nolimit hg hobj hints (Nat.le_trans hlen hn2) hr hF hb (fun H hO hS => hsp w H a ns hlen hO hS) fun H e s' => hCX w H s₁ e s'
end L2

/- THE LAST THEOREM (shape; LID, My.* are yours):
   My.Adr: a structure of the addresses that your layer names (classes, functions); My.Txt K t: a structure (Prop) of the equations over K;
   My.txt_mk : {K} {implicit addresses ..} (e1 : nsIn K mainGlobals "law" = some (some (.ref f))) (e2 : K.lookup f = some ⟨oc, od, .func (fnOf "law" "law" params body scope dV kV doc pm an cdv ct), sl⟩) (e3 : codeIn K cdv "law" = true) .. : ∃ t, My.Txt K t

(the tactic k_is has no namespace: write k_is) -/

/-! SHORT WORDS over the layer: a def of the text, its body, what a loop and a test want. -/
namespace L2
open PySem PySem.Spec PyProof.Rows

/-! ### the text by places -/
def defArgs (s : Stmt) : Arguments := match s with
  | .FunctionDef _ a _ _ _ _ _ _ _ _ => a
  | _ => { posonlyargs := [], args := [], vararg := none, kwonlyargs := [], kw_defaults := [], kwarg := none, defaults := [] }
def defBody (s : Stmt) : List Stmt := match s with
  | .FunctionDef _ _ b _ _ _ _ _ _ _ => b
  | _ => []
def defScope (s : Stmt) : Scope := match s with
  | .FunctionDef _ _ _ _ _ _ sc _ _ _ => sc
  | _ => { kind := .function, names := [], isGenerator := false, isCoroutine := false }

/-! ### no exception leaves a def -/
abbrev CX0 : CXT := fun _ _ _ _ _ _ => False
abbrev E0 : XK := fun _ _ _ => False
theorem pass0 {X : Cx} : Passes CX0 X E0 := fun _ _ _ _ _ _ _ h => h.elim

/-! ### a def (or method) of the text as it stands behind the top -/
structure Fun (K : PySem.W.Frag) (x qual : Str) (st : Stmt) (f : Addr) (fd : FuncData) : Prop where
  ex : ∃ (oc : Value) (od : Option Addr) (kV doc pm : Value) (an : Option Addr) (cdv ct : Value) (osl : Array (Option Value)),
    fd = PySem.W.fnOf x qual (defArgs st) (defBody st) (defScope st) .none kV doc pm an cdv ct ∧ K.lookup f = some ⟨oc, od, .func fd, osl⟩ ∧ PySem.W.codeIn K cdv qual = true
  kp : PySem.W.keepIn K (.ref f) = true
section
variable {P : Program} {w : World} {K : PySem.W.Frag} {mg : Str → Option Value} {base : Heap}
/-- THE RULE for a def: its body as a term of rules, and the reading of that term -/
theorem Fun.ok {x qual : Str} {st : Stmt} {f : Addr} {fd : FuncData} {N ps : List Str} {k : Nat} {sp : Sp} (F : Fun K x qual st f fd) (S : FnScope N ps (defScope st)) (len : ∀ vs H Q E, sp vs H Q E → vs.length = ps.length)
    (hbody : ∀ (cdv : Value) (A : Around) (outer : List Env) (s : Shared) (H : Hp) (vs : List V) (Q : VK) (E : XK), Room k (A.deeper (envOfC qual (defScope st) s.heap.objs.size f cdv)) → sp vs H Q E →
      ∃ t, PSs (cxOf CX0 P w K mg base N qual (defScope st) f cdv A outer s H E).nox (defBody st) t ∧ t { nx := fun _ H' => Q .non H', rt := Q } (start N vs) H) : FnOk P w K mg base CX0 (k + 1) f fd ps sp := by
  obtain ⟨oc, od, kV, doc, pm, an, cdv, ct, osl, rfl, lk, hcd⟩ := F.ex
  refine fn_of lk hcd S len fun A outer s H vs Q E hr hsp => ?_
  obtain ⟨t, h, q⟩ := hbody cdv A outer s H vs Q E hr hsp
  exact ⟨t, h.nox, q⟩
/-- how its arguments bind (no defaults): h is «fun _ _ _ _ _ _ us hl => match us, hl with | [_, _], _ => rfl», one _ a parameter -/
theorem Fun.binds {x qual : Str} {st : Stmt} {f : Addr} {fd : FuncData} {ps : List Str} (F : Fun K x qual st f fd)
    (h : ∀ (kV doc pm : Value) (an : Option Addr) (cdv ct : Value) (us : List Value), us.length = ps.length → bindArgs (PySem.W.fnOf x qual (defArgs st) (defBody st) (defScope st) .none kV doc pm an cdv ct) ⟨us, []⟩ = pure (ps.zip us)) : Binds K fd ps [] := by
  obtain ⟨oc, od, kV, doc, pm, an, cdv, ct, osl, rfl, lk, hcd⟩ := F.ex
  exact .all (h kV doc pm an cdv ct)
theorem fun_mk {x qual : Str} {st : Stmt} {f : Addr} {oc : Value} {od an : Option Addr} {osl : Array (Option Value)} {kV doc pm cdv ct : Value} (l : K.lookup f = some ⟨oc, od, .func (PySem.W.fnOf x qual (defArgs st) (defBody st) (defScope st) .none kV doc pm an cdv ct), osl⟩)
    (c : PySem.W.codeIn K cdv qual = true) (k : PySem.W.keepIn K (.ref f) = true) : Fun K x qual st f (PySem.W.fnOf x qual (defArgs st) (defBody st) (defScope st) .none kV doc pm an cdv ct) := ⟨⟨oc, od, kV, doc, pm, an, cdv, ct, osl, rfl, l, c⟩, k⟩
end
/-! ### expressions in short: the name that stands in the i-th slot -/
section
variable {X : Cx}
theorem pv (i : Nat) {x : Str} {pos : Pos} (hN : X.N[i]? = some x := by rfl) (hv : Vis X.env.scope x := by first | exact Or.inl rfl | exact Or.inr (Or.inl rfl) | exact Or.inr (Or.inr rfl)) (hd : (x == ("__debug__" : Str)) = false := by decide)
    (hcd : (x == ("__classdict__" : Str)) = false := by decide) : PE X (.Name x pos) (tVar i) := pe_var hN hv hd hcd
end

/-! ### tests -/
theorem iteF {A B : Prop} (h : B) : if false = true then A else B := by
  rw [if_neg Bool.false_ne_true]
  exact h
theorem iteT {A B : Prop} (h : A) : if true = true then A else B := by
  rw [if_pos rfl]
  exact h
theorem ite2 {c A B : Prop} [Decidable c] (h1 : c → A) (h2 : ¬ c → B) : if c then A else B := by
  by_cases h : c
  · rw [if_pos h]
    exact h1 h
  · rw [if_neg h]
    exact h2 h
/-! ### heaps -/
/-- all that was tracked is as it was -/
def Same (H H' : Hp) : Prop := ∀ b o, H b = some o → H' b = some o
theorem Same.refl (H : Hp) : Same H H := fun _ _ h => h
theorem Same.trans {H H1 H2 : Hp} (a : Same H H1) (b : Same H1 H2) : Same H H2 := fun c o h => b c o (a c o h)
theorem Same.free {H H' : Hp} (e : Same H H') {l : Addr} (h : H' l = Option.none) : H l = Option.none := by
  cases q : H l with
  | none => rfl
  | some o =>
    rw [e l o q] at h
    cases h
theorem Same.seq {K : PySem.W.Frag} {H H' : Hp} {a : Addr} {xs : List V} (e : Same H H') (h : SqL K H a xs) : SqL K H' a xs := by
  rcases h with (h | ⟨o, h⟩) | h
  · exact .inl (.inl (e _ _ h))
  · exact .inl (.inr ⟨o, e _ _ h⟩)
  · exact .inr h

end L2

set_option Elab.async false
set_option linter.all false
set_option maxRecDepth 100000
set_option maxHeartbeats 4000000
/-! Comprehensions over the hand layer. -/
namespace L2
open PySem PySem.Spec PyProof.Rows

/-! ### the cells that a block takes along -/
def closOf (names : List (Str × NameKind)) (cells : List (Str × Addr)) : List (Str × Addr) :=
  names.foldl (fun cs p => if p.2 == .free then (p.1, (cells.lookup p.1).getD 0) :: cs else cs) []
theorem clos_go {env : Env} : ∀ (names : List (Str × NameKind)) (cs : List (Str × Addr)), (∀ x ∈ names, x.2 = .free → ∃ c, env.cells.lookup x.1 = some c) →
    (forIn names cs (fun (x : Str × NameKind) (cs : List (Str × Addr)) => match x with | (name, kind) => if (kind == NameKind.free) = true then do let a ← cellOf env name; pure (ForInStep.yield ((name, a) :: cs)) else pure (ForInStep.yield cs)) : Sem (List (Str × Addr)))
      = pure (names.foldl (fun cs p => if p.2 == .free then (p.1, (env.cells.lookup p.1).getD 0) :: cs else cs) cs)
  | [], cs, _ => rfl
  | (n, k) :: r, cs, h => by
    rw [List.forIn_cons, List.foldl_cons]
    have ih := fun cs' => clos_go (env := env) r cs' fun x hx => h x (List.mem_cons_of_mem _ hx)
    cases hk : (k == NameKind.free) with
    | false =>
      simp only [hk, Bool.false_eq_true, if_false, pure_bind]
      exact ih cs
    | true =>
      obtain ⟨c, hc⟩ := h (n, k) List.mem_cons_self (by simpa using hk)
      have e : cellOf env n = pure c := by unfold cellOf; rw [hc]
      simp only [hk, if_true, e, pure_bind]
      rw [hc]
      exact ih _
theorem closureFor_of {scope : Scope} {env : Env} (h : ∀ x ∈ scope.names, x.2 = .free → ∃ c, env.cells.lookup x.1 = some c) : closureFor scope env = pure (closOf scope.names env.cells) := by
  unfold closureFor
  have := clos_go (env := env) scope.names [] h
  simp only [bind_pure]
  exact this
theorem clos_look {cells : List (Str × Addr)} {x : Str} {c : Addr} : ∀ (names : List (Str × NameKind)) (cs : List (Str × Addr)),
    (∀ y ∈ names, y.2 = .free → ∃ c, cells.lookup y.1 = some c) → (∀ c, cs.lookup x = some c → cells.lookup x = some c) →
    (names.foldl (fun cs p => if p.2 == .free then (p.1, (cells.lookup p.1).getD 0) :: cs else cs) cs).lookup x = some c → cells.lookup x = some c
  | [], cs, _, h2, h => h2 c h
  | (n, k) :: r, cs, h1, h2, h => by
    rw [List.foldl_cons] at h
    refine clos_look r _ (fun y hy => h1 y (List.mem_cons_of_mem _ hy)) (fun d hd => ?_) h
    cases hk : (k == NameKind.free) with
    | false =>
      simp only [hk, Bool.false_eq_true, if_false] at hd
      exact h2 d hd
    | true =>
      obtain ⟨e, he⟩ := h1 (n, k) List.mem_cons_self (by simpa using hk)
      simp only [hk, if_true, List.lookup_cons] at hd
      cases hx : x == n with
      | false => rw [hx] at hd; exact h2 d hd
      | true =>
        rw [hx] at hd
        have hxn : x = n := by simpa using hx
        subst hxn
        rw [he] at hd
        simp at hd
        rw [he, hd]
theorem closOf_look {names : List (Str × NameKind)} {cells : List (Str × Addr)} {x : Str} {c : Addr} (h1 : ∀ y ∈ names, y.2 = .free → ∃ c, cells.lookup y.1 = some c) (h : (closOf names cells).lookup x = some c) : cells.lookup x = some c :=
  clos_look names [] h1 (fun _ z => by simp at z) h
theorem clos_mem {cells : List (Str × Addr)} {x : Str} : ∀ (names : List (Str × NameKind)) (cs : List (Str × Addr)),
    ((x, NameKind.free) ∈ names ∨ ∃ c, cs.lookup x = some c) → ∃ c, (names.foldl (fun cs p => if p.2 == .free then (p.1, (cells.lookup p.1).getD 0) :: cs else cs) cs).lookup x = some c
  | [], cs, h => by
    rcases h with h | h
    · cases h
    · exact h
  | (n, k) :: r, cs, h => by
    rw [List.foldl_cons]
    refine clos_mem r _ ?_
    rcases h with h | ⟨c, h⟩
    · rcases List.mem_cons.mp h with h | h
      · right
        injection h with h1 h2
        subst h1 h2
        exact ⟨(cells.lookup x).getD 0, by simp [List.lookup_cons]⟩
      · exact .inl h
    · right
      cases hk : (k == NameKind.free) with
      | false => exact ⟨c, by simp only [hk, Bool.false_eq_true, if_false]; exact h⟩
      | true =>
        simp only [hk, if_true, List.lookup_cons]
        cases hx : x == n with
        | false => exact ⟨c, h⟩
        | true => exact ⟨_, rfl⟩
theorem lookup_mem {names : List (Str × NameKind)} {x : Str} {k : NameKind} (h : names.lookup x = some k) : (x, k) ∈ names := by
  induction names with
  | nil => simp at h
  | cons p r ih =>
    obtain ⟨n, l⟩ := p
    rw [List.lookup_cons] at h
    cases hx : x == n with
    | false => rw [hx] at h; exact List.mem_cons_of_mem _ (ih h)
    | true =>
      rw [hx] at h
      have hxn : x = n := by simpa using hx
      subst hxn
      cases h
      exact List.mem_cons_self
/-- the kind of a name in the block's own scope -/
theorem look_relabel {env : Env} : ∀ {names : List (Str × NameKind)} {x : Str} {k : NameKind},
    (names.map fun (n, k) => if (k == NameKind.free && env.scope.kind == .function && env.kindOf n == some .cell) then (n, NameKind.cell) else (n, k)).lookup x = some k →
      names.lookup x = some k ∨ (k = .cell ∧ names.lookup x = some .free)
  | [], _, _, h => by simp at h
  | (n, l) :: r, x, k, h => by
    have ih := @look_relabel env r x k
    rw [List.map_cons] at h
    by_cases hc : (l == NameKind.free && env.scope.kind == .function && env.kindOf n == some .cell) = true
    · simp only [hc, if_true] at h
      rw [List.lookup_cons] at h ⊢
      cases hx : x == n with
      | true =>
        rw [hx] at h
        cases h
        have hl : l = .free := by
          have := (Bool.and_eq_true_iff.mp (Bool.and_eq_true_iff.mp hc).1).1
          simpa using this
        subst hl
        exact .inr ⟨rfl, rfl⟩
      | false => rw [hx] at h; exact ih h
    · simp only [hc] at h
      simp only [Bool.false_eq_true, if_false] at h
      rw [List.lookup_cons] at h ⊢
      cases hx : x == n with
      | true => rw [hx] at h; exact .inl h
      | false => rw [hx] at h; exact ih h

/-- the context of a comprehension's block -/
def cxC (X : Cx) (scope : Scope) (N : List Str) (pins : List (Addr × Obj)) (fp : List Addr) (s : Shared) (H : Hp) : Cx where
  prog := X.prog
  w := X.w
  K := X.K
  mg := X.mg
  base := X.base
  A := X.A
  N := N
  s₀ := s
  H₀ := H
  env := compEnvC scope (closOf scope.names X.env.cells) s.heap.objs.size X.env
  outer := X.stack
  stack := X.stack
  ex := fp
  fn := fun _ => false
  calm := X.calm
  pn := X.pn ++ pins
  xe := fun _ _ => False

/-- the scope of a block: own names first (k of them), then the ones that it takes along (their places in X.N) -/
structure CScope (X : Cx) (scope : Scope) (N : List Str) (k : Nat) (fr : List Nat) : Prop where
  kind : scope.kind = .function
  nocell : (scope.names.all fun y => y.2 != .cell) = true
  names : (scope.names.all fun y => y.2 != .local || scope.names.lookup y.1 == some .local) = true
  free : (scope.names.all fun y => y.2 != .free || (X.env.kindOf y.1 == some .cell || X.env.kindOf y.1 == some .free)) = true
  len : N.length = k + fr.length
  at_ : ((List.range fr.length).all fun i => match N[k + i]?, fr[i]? with | some x, some j => X.N[j]? == some x && scope.names.lookup x == some .free | _, _ => false) = true

section
variable {X : Cx} {scope : Scope} {N : List Str} {k : Nat} {fr : List Nat}
theorem CScope.frees (S : CScope X scope N k fr) : ∀ y ∈ scope.names, y.2 = .free → X.env.kindOf y.1 = some .cell ∨ X.env.kindOf y.1 = some .free := fun y hy e => by
  have h := List.all_eq_true.mp S.free y hy
  simp only [e] at h
  simpa using h
theorem CScope.cells (S : CScope X scope N k fr) (ok : X.Ok) : ∀ y ∈ scope.names, y.2 = .free → ∃ c, X.env.cells.lookup y.1 = some c := fun y hy e => ok.has y.1 (S.frees y hy e)
theorem CScope.locals (S : CScope X scope N k fr) : ∀ y ∈ scope.names, y.2 = .local → scope.names.lookup y.1 = some .local := fun y hy e => by
  have h := List.all_eq_true.mp S.names y hy
  simp only [e] at h
  simpa using h
theorem CScope.cellsNo (S : CScope X scope N k fr) : ∀ y ∈ scope.names, y.2 ≠ .cell := fun y hy e => by
  have h := List.all_eq_true.mp S.nocell y hy
  simp [e] at h
/-- the values at the block's entry -/
def startC (k : Nat) (fr : List Nat) (σ : St) : St := List.replicate k none ++ fr.map fun j => (σ[j]?).getD none
variable {pins : List (Addr × Obj)} {σ : St} {H : Hp} {s : Shared} {fp : List Addr}
theorem okC (S : CScope X scope N k fr) (I : Inv X pins σ H s) (hf : ∀ b ∈ fp, FpOk X pins H b) (hlt : ∀ b ∈ fp, b < s.heap.objs.size) : (cxC X scope N pins fp s H).Ok where
  mod := I.ok.mod
  kind := S.kind
  glob := I.ok.glob
  blt := I.ok.blt
  above := Nat.le_refl _
  inj := fun x y c hx hy => I.ok.inj x y c (closOf_look (S.cells I.ok) hx) (closOf_look (S.cells I.ok) hy)
  has := fun x hx => by
    have hx' : (relabel scope X.env).names.lookup x = some .cell ∨ (relabel scope X.env).names.lookup x = some .free := hx
    have key : scope.names.lookup x = some .free := by
      rcases hx' with h | h
      · rcases look_relabel h with h | h
        · exact absurd rfl (S.cellsNo _ (lookup_mem h))
        · exact h.2
      · rcases look_relabel h with h | h
        · exact h
        · exact h.2
    exact clos_mem scope.names [] (.inl (lookup_mem key))
  cab := fun x c h _ => by cases h
  hd := I.ok.hd
  frames := I.ok.frames
  stk := .inl rfl
  exf := fun b hb => ⟨Nat.ne_of_lt (hlt b hb), fun x c hc => (hf b hb).2.2.2.2.1 x c (closOf_look (S.cells I.ok) hc)⟩
  bs := I.bs
  bsz := Nat.le_trans I.ok.bsz I.sz
  noex := fun b o e hb => by
    rcases (hf b hb).2.2.2.1 with z | z
    · exact I.ok.noex b o e z
    · exact absurd (Nat.lt_of_lt_of_le (Heap.lt_size e) (Nat.le_trans I.ok.bsz z)) (Nat.lt_irrefl _)
  exfs := fun b hb hs => by
    rcases List.mem_cons.mp (I.stkSub b hs) with e | e
    · exact (hf b hb).2.1 e
    · exact (hf b hb).2.2.1 e
  funs := I.stack
  frf := I.stkFree
theorem invC {h1 : Heap} {t1 : Nat} {m : Str → Option Value} (S : CScope X scope N k fr) (I : Inv X pins σ H s) (hf : ∀ b ∈ fp, FpOk X pins H b) (hlt : ∀ b ∈ fp, b < s.heap.objs.size)
    (hns : h1.Ns s.heap.objs.size m) (hkeep : ∀ b o, s.heap.get? b = some o → h1.get? b = some o) : Inv (cxC X scope N pins fp s H) [] (startC k fr σ) H { s with heap := h1, toks := t1 } where
  ok := okC S I hf hlt
  os := rfl
  bare := I.bare
  base := Un.kept hkeep
  loc := by
    refine ⟨m, hns, fun i x v e1 e2 e3 => ?_⟩
    have hk : k ≤ i := by
      by_cases z : i < k
      · unfold startC at e2
        rw [List.getElem?_append_left (by simpa using z)] at e2
        simp [z] at e2
      · omega
    obtain ⟨j, rfl⟩ : ∃ j, i = k + j := ⟨i - k, by omega⟩
    unfold startC at e2
    rw [List.getElem?_append_right (by simp)] at e2
    simp only [List.length_replicate, Nat.add_sub_cancel_left, List.getElem?_map] at e2
    have hj : j < fr.length := by
      cases q : fr[j]? with
      | none => rw [q] at e2; cases e2
      | some _ => exact (List.getElem?_eq_some_iff.mp q).1
    have ha := List.all_eq_true.mp S.at_ j (by simpa using hj)
    have e1' : N[k + j]? = some x := e1
    cases q : fr[j]? with
    | none => rw [q] at e2; cases e2
    | some p =>
      rw [q] at e2
      simp only [e1', q] at ha
      obtain ⟨a1, a2⟩ := Bool.and_eq_true_iff.mp ha
      have a1' : X.N[p]? = some x := by simpa using a1
      have a2' : scope.names.lookup x = some .free := by simpa using a2
      have e2' : (σ[p]?).getD none = some v := by simpa using e2
      have e2'' : σ[p]? = some (some v) := by
        cases z : σ[p]? with
        | none => rw [z] at e2'; cases e2'
        | some y => rw [z] at e2'; simpa using e2'
      have hfr := S.frees (x, .free) (lookup_mem a2') rfl
      obtain ⟨m0, hn0, hl0⟩ := I.loc
      have hvis : Vis X.env.scope x := by
        rcases hfr with z | z
        · exact .inr (.inl z)
        · exact .inr (.inr z)
      obtain ⟨u, r, l⟩ := hl0 p x v a1' e2'' hvis
      refine ⟨u, r, .inr ⟨?_, ?_⟩⟩
      · show (relabel scope X.env).names.lookup x = some .cell ∨ (relabel scope X.env).names.lookup x = some .free
        rcases e3 with z | z | z
        · rcases look_relabel z with z | z
          · rw [a2'] at z; cases z
          · cases z.1
        · exact .inl z
        · exact .inr z
      · have hc : ∃ c, X.env.cells.lookup x = some c ∧ s.heap.IsCell c (some u) := by
          rcases l with ⟨z, _⟩ | ⟨_, c, hc, hv⟩
          · rcases hfr with y | y
            · have y' : X.env.kindOf x = some .cell := y
              rw [y'] at z; cases z
            · have y' : X.env.kindOf x = some .free := y
              rw [y'] at z; cases z
          · exact ⟨c, hc, hv⟩
        obtain ⟨c, hc, o, ho, hd⟩ := hc
        obtain ⟨c', hc'⟩ := clos_mem (cells := X.env.cells) scope.names [] (.inl (lookup_mem a2'))
        have hcc := closOf_look (S.cells I.ok) hc'
        rw [hc] at hcc
        cases hcc
        exact ⟨c, hc', o, hkeep c o ho, hd⟩
  cell := fun x c hc => by
    obtain ⟨v, o, ho, hd⟩ := I.cell x c (closOf_look (S.cells I.ok) hc)
    exact ⟨v, o, hkeep c o ho, hd⟩
  free := I.hok.fresh (Nat.le_refl _)
  freeC := fun x c hc => I.freeC x c (closOf_look (S.cells I.ok) hc)
  pin := fun p hp => by
    have hp' : p ∈ X.pn ++ pins := by
      have hp2 : p ∈ (X.pn ++ pins) ++ [] := hp
      simpa using hp2
    obtain ⟨e, n, ne, nf, d⟩ := I.pin p hp'
    refine ⟨hkeep _ _ e, n, Nat.ne_of_lt (Heap.lt_size e), fun z => ?_, d⟩
    rcases List.mem_cons.mp (I.stkSub p.1 z) with q | q
    · exact ne q
    · exact nf q
  hok := I.hok.kept hkeep
  len := by
    have := S.len
    show (startC k fr σ).length = N.length
    unfold startC
    simp [this]
/-- behind the block -/
theorem outC {σ' : St} {H' : Hp} {s' : Shared} {h' : Heap} {pins' : List (Addr × Obj)} (I : Inv X pins σ H s) (hf : ∀ b ∈ fp, FpOk X pins H b) (I' : Inv (cxC X scope N pins fp s H) pins' σ' H' s') (sb : Heap.SameBut s.heap.objs.size s'.heap h') :
    Inv X pins σ H' { s' with heap := h' } := by
  have fr' : H' s.heap.objs.size = none := I'.free
  refine I.call' (s' := { s' with heap := h' }) (ch := fp) I'.os ⟨fun b o e n hb hx => ?_, fun b o e n hb hx => ?_, I'.base.free, fun b o e hx => ?_, I'.base.tups, I'.base.frzs, I'.base.tbls⟩ ?_ I'.bare (fun b hb => ⟨(hf b hb).2.2.2.1, (hf b hb).2.1, (hf b hb).2.2.2.2.1, (hf b hb).2.2.2.2.2⟩)
  · exact (sb.2 b (Nat.ne_of_lt (Heap.lt_size e))).trans (I'.base.keep b o e n hb hx)
  · obtain ⟨sl, q⟩ := I'.base.slot b o e n hb hx
    exact ⟨sl, (sb.2 b (Nat.ne_of_lt (Heap.lt_size e))).trans q⟩
  · obtain ⟨o', q⟩ := I'.base.there b o e hx
    exact ⟨o', (sb.2 b (Nat.ne_of_lt (Heap.lt_size e))).trans q⟩
  · intro b u e
    refine (I'.hok b u e).stay (fun c v hc q => (sb.2 c ?_).trans q) (fun _ q => q) fun _ _ q => q
    rintro rfl
    rcases hc with rfl | hc
    · rw [fr'] at e; cases e
    · rw [fr'] at hc; cases hc
end

/-! ### the tests of a clause -/
def PTs (X : Cx) (ifs : List Expr) (t : TT) : Prop :=
  ∀ (pins : List (Addr × Obj)) (s : Shared) (σ : St) (H : Hp) (Q : Bool → Hp → Prop), Inv X pins σ H s → t σ H Q →
    wpAny (model X.prog X.w) X.A (forIn ifs true fun c r => if r = true then do let ok ← isTrue c X.env (eval c X.env); pure (ForInStep.yield ok) else pure (ForInStep.yield r)) (TP X pins σ Q) X.xe s
def tYes : TT := fun _ H Q => Q true H
theorem pts_nil {X : Cx} : PTs X [] tYes := fun _ _ _ H _ I h => wpAny_tests_nil ⟨H, I, h⟩
theorem pts_one {X : Cx} {c : Expr} {t : TT} (h : PT X c t) : PTs X [c] t := fun pins s σ H Q I hw => wpAny_tests_one (h pins s σ H Q I hw)

/-- the loop of a comprehension, with whatever the step ahead of the store does -/
theorem compLoop_any {prog : Program} {w : World} {A : Around} {R : Result → Shared → Prop} {s : Shared} {elt target iter : Expr} {ifs : List Expr} {scope : Scope} {pos : Pos} {it acc : Value} {env : Env} (I : Nat → Shared → Prop)
    (turn : ∀ n s, I n s → wpAny (model prog w) A (pyNext it) (fun r s₁ => match r with
      | none => R (.ok .next) s₁
      | some v => wpAny (model prog w) A (letOwnedTupleGo target it v) (fun _ s₁' => wpAny (model prog w) A (assign target env v) (fun _ s₂ =>
          wpAny (model prog w) A (forIn ifs true fun c r => if r = true then do let ok ← isTrue c env (eval c env); pure (ForInStep.yield ok) else pure (ForInStep.yield r)) (fun ok s₃ =>
            if ok = true then wpAny (model prog w) A (eval elt env) (fun x s₄ =>
              wpAny (model prog w) A (call (.builtin "list.append") [acc, x]) (fun _ s₅ => ∃ m, m < n ∧ I m s₅) (fun _ _ => False) s₄) (fun _ _ => False) s₃
            else ∃ m, m < n ∧ I m s₃) (fun _ _ => False) s₂) (fun _ _ => False) s₁') (fun _ _ => False) s₁) (fun _ _ => False) s)
    (n : Nat) (h : I n s) :
    codeAny (model prog w) A (.compLoop (.ListComp elt [⟨target, iter, ifs, 0⟩] scope pos) 0 it acc env) R s := by
  refine codeAny_loop rfl I (fun n s hI => ?_) n h
  show wpAny _ A ((compTurn (.ListComp elt [⟨target, iter, ifs, 0⟩] scope pos) 0 it acc env).onRaise (fun x => do noteFrame x env; theTreesLotGoes x)) _ _ s
  refine wpAny_noted ?_
  rw [compTurn_list]
  refine wpAny_bind (wpAny_standAt (wpAny_bind (wpAny_mono (turn n s hI) (fun r s₁ h₁ => ?_) fun _ _ h' => h'.elim)))
  cases r with
  | none => exact wpAny_pure h₁
  | some v =>
    refine wpAny_bind (wpAny_mono h₁ (fun _ s₁' h₁' => ?_) fun _ _ h' => h'.elim)
    refine wpAny_bind (wpAny_mono h₁' (fun _ s₂ h₂ => wpAny_bind (wpAny_mono h₂ (fun ok s₃ h₃ => ?_) fun _ _ h' => h'.elim)) fun _ _ h' => h'.elim)
    cases ok with
    | false =>
      simp only [Bool.false_eq_true, if_false] at h₃ ⊢
      exact wpAny_bind (wpAny_pure (wpAny_pure ⟨rfl, h₃⟩))
    | true =>
      simp only [if_true] at h₃ ⊢
      refine wpAny_bind (wpAny_bind (wpAny_mono h₃ (fun x s₄ h₄ => wpAny_bind (wpAny_mono h₄ (fun _ s₅ h₅ => wpAny_pure (wpAny_pure ⟨rfl, h₅⟩)) fun _ _ h' => h'.elim)) fun _ _ h' => h'.elim))

/-- the reading of a comprehension: D is the new list; W: the word by the turn, a measure and the items so far -/
def rdComp (k : Nat) (fr : List Nat) (g : TG) (tc : TT) (te : TE) (σ : St) (J : It) (H1 : Hp) (Q : VK) : Prop :=
  ∀ D, H1 D = none → ∃ W : Nat → Nat → List V → St → Hp → Prop, (∃ m, W 0 m [] (startC k fr σ) (upd H1 D (.lst []))) ∧
    ∀ i m ys σ' H', W i m ys σ' H' → H' D = some (.lst ys) ∧
      ((J.stop i H' ∧ Q (.ref D) H') ∨
       (J.go i H' ∧ ∃ m', m' < m ∧ ∀ x H2, J.yld i H' x H2 → g x σ' H2 fun σ2 H3 => tc σ2 H3 fun b H4 =>
          if b = true then te σ2 H4 fun v H5 => H5 D = some (.lst ys) ∧ ys.length < sizeLine ∧ W (i + 1) m' (ys ++ [v]) σ2 (upd H5 D (.lst (ys ++ [v])))
          else W (i + 1) m' ys σ2 H4))
def tComp (k : Nat) (fr : List Nat) (wi : TI) (g : TG) (tc : TT) (te : TE) : TE := fun σ H Q => wi σ H fun J H1 => rdComp k fr g tc te σ J H1 Q

section
variable {X : Cx} {scope : Scope} {N : List Str} {k : Nat} {fr : List Nat} {tg iter elt : Expr} {ifs : List Expr} {wi : TI} {g : TG} {tc : TT} {te : TE} {pos : Pos}
/-- the block, from the iterator on; RR: what is wanted of the result -/
theorem blockC {pins : List (Addr × Obj)} {σ : St} {H : Hp} {s : Shared} {it : Addr} {fp : List Addr} {tn : Nat → Heap → Prop} {J : It} {Q : VK} {RR : Value → Addr → Result → Shared → Prop} {E : Value → Shared → Prop}
    (hc : X.calm = true) (S : CScope X scope N k fr) (hg : ∀ pins fp s H, PG (cxC X scope N pins fp s H) tg g) (ht : ∀ pins fp s H, PTs (cxC X scope N pins fp s H) ifs tc) (he : ∀ pins fp s H, PE (cxC X scope N pins fp s H) elt te)
    (I : Inv X pins σ H s) (T : Turn X.prog X.w X.K tg J fp it tn) (st : tn 0 s.heap) (hf : ∀ b ∈ fp, FpOk X pins H b) (h : rdComp k fr g tc te σ J H Q)
    (hR : ∀ D C s' (H' : Hp), Q (.ref D) H' → FpOk X pins H' C → (∃ m, s'.heap.Ns C m) → (∀ h', Heap.SameBut C s'.heap h' → Inv X pins σ H' { s' with heap := h' }) → RR (.ref D) C (.ok .next) s') :
    wpAny (model X.prog X.w) X.A (newList []) (fun acc s₃ => wpAny (model X.prog X.w) X.A (newFunctionEnv scope X.env.globals (closOf scope.names X.env.cells) [] X.env.qual none .none (some X.env)) (fun cenv s₄ =>
      codeAny (model X.prog X.w) X.A (.compStart (.ListComp elt [⟨tg, iter, ifs, 0⟩] scope pos) 0 (.ref it) acc { cenv with scope := relabel scope X.env }) (RR acc cenv.locals) s₄) E s₃) E s := by
  refine wpAny_newObj_type (wpAny_newFunctionEnv S.cellsNo (by intro y hy; simp at hy) (fun h₁ hns₁ hsb₁ => ?_) S.kind)
  dsimp only at hns₁ hsb₁ ⊢
  have I3 : Inv X pins σ (upd H s.heap.objs.size (.lst [])) { s with heap := s.heap.push { cls := .type "list", dict := none, data := .seq ([] : List Value).toArray } } :=
    I.laid (t' := s.toks) (fun b u e => Heap.get?_push_of_some _ e) (Nat.le_refl _) ⟨by simp, [], _, .nil, Heap.get?_push_size _ rfl⟩
  generalize hS3 : ({ s with heap := s.heap.push { cls := .type "list", dict := none, data := .seq ([] : List Value).toArray } } : Shared) = s3 at I3
  have e3 : s.heap.push { cls := .type "list", dict := none, data := .seq ([] : List Value).toArray } = s3.heap := by rw [← hS3]
  rw [e3] at hns₁ hsb₁ ⊢
  generalize hD : s.heap.objs.size = D at I3 ⊢
  have hDn : H D = none := I.hok.fresh (by omega)
  obtain ⟨W, ⟨m0, w0⟩, turn⟩ := h D hDn
  have hfD : ∀ b ∈ fp, b ≠ D := fun b hb z => by
    obtain ⟨o, e, _⟩ := T.obj 0 _ st b hb
    exact absurd (Heap.lt_size e) (by rw [z, ← hD]; exact Nat.lt_irrefl _)
  have hf3 : ∀ b ∈ fp, FpOk X pins (upd H D (.lst [])) b := fun b hb => ⟨by rw [upd_ne (hfD b hb)]; exact (hf b hb).1, (hf b hb).2⟩
  have up3 : ∀ b o, s.heap.get? b = some o → s3.heap.get? b = some o := fun b o e => by rw [← e3]; exact Heap.get?_push_of_some _ e
  have hlt : ∀ b ∈ fp, b < s3.heap.objs.size := fun b hb => by
    obtain ⟨o, e, _⟩ := T.obj 0 _ st b hb
    exact Heap.lt_size (up3 b o e)
  have keep : ∀ b o, s3.heap.get? b = some o → h₁.get? b = some o := fun b o e => hsb₁.extBut b o (Nat.ne_of_lt (Heap.lt_size e)) (Heap.get?_push_of_some _ e)
  have st1 : tn 0 h₁ := T.keep 0 _ _ st fun b hb o e => keep b o (up3 b o e)
  have eos : ({ s with heap := h₁, toks := s.toks + ([] : List (Str × Value)).length } : Shared) = { s3 with heap := h₁, toks := s.toks + ([] : List (Str × Value)).length } := by rw [← hS3]
  have IC : Inv (cxC X scope N pins fp s3 (upd H D (.lst []))) [] (startC k fr σ) (upd H D (.lst [])) { s3 with heap := h₁, toks := s.toks + ([] : List (Str × Value)).length } := invC S I3 hf3 hlt hns₁ keep
  rw [← eos] at IC
  -- what stays true of the iterator's records
  have statC : ∀ {H' : Hp}, (∀ b ∈ fp, H' b = none) → ∀ b ∈ fp, FpOk (cxC X scope N pins fp s3 (upd H D (.lst []))) [] H' b := fun hn b hb =>
    ⟨hn b hb, Nat.ne_of_lt (hlt b hb), fun z => by
      rcases List.mem_cons.mp (I3.stkSub b z) with q | q
      · exact (hf b hb).2.1 q
      · exact (hf b hb).2.2.1 q, .inl hb, fun x c hcx => (hf b hb).2.2.2.2.1 x c (closOf_look (S.cells I.ok) hcx), fun p hp => by
      have hp' : p ∈ X.pn ++ pins := by
        have hp2 : p ∈ (X.pn ++ pins) ++ [] := hp
        simpa using hp2
      exact (hf b hb).2.2.2.2.2 p hp'⟩
  have loop : ∀ s4 : Shared, Inv (cxC X scope N pins fp s3 (upd H D (.lst []))) [] (startC k fr σ) (upd H D (.lst [])) s4 → tn 0 s4.heap →
      codeAny (model X.prog X.w) X.A (.compLoop (.ListComp elt [⟨tg, iter, ifs, 0⟩] scope pos) 0 (.ref it) (.ref D) (cxC X scope N pins fp s3 (upd H D (.lst []))).env) (RR (.ref D) s3.heap.objs.size) s4 := by
    intro s4 I4 st4
    refine compLoop_any (fun n s' => ∃ i ys σ' H', Inv (cxC X scope N pins fp s3 (upd H D (.lst []))) [] σ' H' s' ∧ tn i s'.heap ∧ (∀ b ∈ fp, H' b = none) ∧ W i n ys σ' H') ?_ m0 ⟨0, [], _, _, I4, st4, fun b hb => (hf3 b hb).1, w0⟩
    rintro n s5 ⟨i, ys, σ5, H5, I5, st5, fr5, w5⟩
    obtain ⟨hD5, hcase⟩ := turn i n ys σ5 H5 w5
    rcases hcase with ⟨stop, q⟩ | ⟨go, m', hm, step⟩
    · refine thn (T.done (cxC X scope N pins fp s3 (upd H D (.lst []))) rfl rfl rfl hc i [] s5 σ5 H5 _ I5 (statC fr5) st5 stop) fun r s6 ⟨hr, I6⟩ => ?_
      subst hr
      obtain ⟨m6, hn6, _⟩ := I6.loc
      exact hR D _ s6 H5 q (I3.fpOk (Nat.le_refl _) I6.free) ⟨m6, hn6⟩ fun h' sb => outC I3 hf3 I6 sb
    · refine thn (T.item (cxC X scope N pins fp s3 (upd H D (.lst []))) rfl rfl rfl hc i [] s5 σ5 H5 _ I5 (statC fr5) st5 go) fun r s6 ⟨u, hr, h6⟩ => ?_
      subst hr
      refine thn h6 fun _ s7 ⟨x, H7, I7, r7, y7, st7, fr7⟩ => ?_
      have I7' := I7.pinned (statC fr7) (T.obj _ _ st7)
      refine thn (hg pins fp s3 _ _ s7 σ5 H7 x u _ I7' r7 (step x H7 y7)) fun _ s8 ⟨σ8, H8, I8, q8⟩ => ?_
      refine thn (ht pins fp s3 _ _ s8 σ8 H8 _ I8 q8) fun b s9 ⟨H9, I9, q9⟩ => ?_
      have again : ∀ {H' : Hp} {s' : Shared}, Inv (cxC X scope N pins fp s3 (upd H D (.lst []))) ([] ++ pinsAt fp s7.heap) σ8 H' s' → tn (i + 1) s'.heap ∧ (∀ b ∈ fp, H' b = none) := fun {H' s'} I' => by
        refine ⟨T.keep _ _ _ st7 fun b hb o e => (I'.pin (b, o) (List.mem_append_right _ (List.mem_append_right _ (mem_pinsAt hb e)))).1, fun b hb => ?_⟩
        obtain ⟨o, e, d⟩ := T.obj _ _ st7 b hb
        exact (I'.pin (b, o) (List.mem_append_right _ (List.mem_append_right _ (mem_pinsAt hb e)))).2.1
      cases b with
      | false =>
        simp only [Bool.false_eq_true, if_false] at q9 ⊢
        obtain ⟨a1, a2⟩ := again I9
        exact ⟨m', hm, i + 1, ys, σ8, H9, I9.unpinned, a1, a2, q9⟩
      | true =>
        simp only [if_true] at q9 ⊢
        refine thn (he pins fp s3 _ _ s9 σ8 H9 _ I9 q9) fun y s10 ⟨v, H10, I10, r10, hD10, hl10, q10⟩ => ?_
        refine thn (mt_append (X := cxC X scope N pins fp s3 (upd H D (.lst []))) _ s10 σ8 H10 (.ref D) [v] (.ref D) [y] (fun z H' => z = .non ∧ H' = upd H10 D (.lst (ys ++ [v]))) I10 rfl (.cons r10 .nil) ⟨D, ys, v, rfl, rfl, hD10, hl10, rfl, rfl⟩) fun z s11 ⟨v11, H11, I11, _, _, e11⟩ => ?_
        subst e11
        obtain ⟨a1, a2⟩ := again I11
        exact ⟨m', hm, i + 1, ys ++ [v], σ8, _, I11.unpinned, a1, a2, q10⟩
  exact codeAny_compStart_list (loop _ IC st1) (T.self X.A 0 _ _ _ st1 (loop _ IC st1))
/-- [elt for tg in iter if ..] -/
theorem pe_comp (hc : X.calm = true) (S : CScope X scope N k fr) (hi : PI X tg iter wi) (hg : ∀ pins fp s H, PG (cxC X scope N pins fp s H) tg g) (ht : ∀ pins fp s H, PTs (cxC X scope N pins fp s H) ifs tc)
    (he : ∀ pins fp s H, PE (cxC X scope N pins fp s H) elt te) (hs : ∀ x, foldedSetIterable iter X.env x = pure x := by intro _; rfl) : PE X (.ListComp elt [⟨tg, iter, ifs, 0⟩] scope pos) (tComp k fr wi g tc te) := by
  intro pins s σ H Q I h
  rw [eval_ListComp]
  refine wpAny_comprehension_free (use := none) rfl hs (closureFor_of (S.cells I.ok)) S.kind S.locals (thn (hi pins s σ H _ I h) fun v s1 h1 => thn h1 fun itv s2 h2 => ?_)
  obtain ⟨it, fp, tn, J, H2, e, I2, T, st2, f2, q⟩ := h2
  subst e
  refine blockC (RR := fun acc C => compPost (model X.prog X.w) X.A X.xe none (EP X pins σ Q) acc C) hc S hg ht he I2 T st2 f2 q ?_
  intro D C s' H' q' _ hn inv
  obtain ⟨m, hn⟩ := hn
  exact ⟨m, hn, fun h' sb => ⟨.ref D, H', inv h' sb, rfl, q'⟩⟩
/-- x = [elt for tg in iter if ..], x a plain local name: the store stands ahead of the block's end -/
theorem ps_setComp {i : Nat} {x : Str} {pos' spos : Pos} (hc : X.calm = true) (S : CScope X scope N k fr) (hi : PI X tg iter wi) (hg : ∀ pins fp s H, PG (cxC X scope N pins fp s H) tg g) (ht : ∀ pins fp s H, PTs (cxC X scope N pins fp s H) ifs tc)
    (he : ∀ pins fp s H, PE (cxC X scope N pins fp s H) elt te) (hN : X.N.Nodup) (hix : X.N[i]? = some x) (hx : X.env.scope.names.lookup x = some .local)
    (hsw : swapsWith (.ListComp elt [⟨tg, iter, ifs, 0⟩] scope pos) (some (.Name x pos')) spos.line X.env = pure true := by rfl)
    (hs : ∀ x, foldedSetIterable iter X.env x = pure x := by intro _; rfl) : PS X (.Assign [.Name x pos'] (.ListComp elt [⟨tg, iter, ifs, 0⟩] scope pos) spos) (tAsg (tComp k fr wi g tc te) (gName i)) := by
  intro pins s σ H D I h
  rw [exec_Assign_Name_used _ _ _ _ hsw]
  refine wpAny_bind (wpAny_standAt (wpAny_bind ?_))
  show wpAny _ X.A (do let _ ← comprehension (.ListComp elt [⟨tg, iter, ifs, 0⟩] scope pos) scope X.env _ (newList []) false (eval iter X.env) (some (assign (.Name x pos') X.env))) _ _ s
  refine wpAny_bind (wpAny_mono (wpAny_comprehension_free (use := some (assign (.Name x pos') X.env)) (Q := fun _ s' => SP X pins D .next s') rfl hs (closureFor_of (S.cells I.ok)) S.kind S.locals
    (thn (hi pins s σ H _ I h) fun v s1 h1 => thn h1 fun itv s2 h2 => ?_)) (fun _ s' hq => wpAny_pure (wpAny_pure hq)) fun _ _ e => e)
  obtain ⟨it, fp, tn, J, H2, e, I2, T, st2, f2, q⟩ := h2
  subst e
  refine blockC (RR := fun acc C => compPost (model X.prog X.w) X.A X.xe (some (assign (.Name x pos') X.env)) (fun _ s' => SP X pins D .next s') acc C) hc S hg ht he I2 T st2 f2 q ?_
  intro L C s' H' q' fC hn inv
  obtain ⟨m, hn⟩ := hn
  show wpAny _ X.A (assign (.Name x pos') X.env (.ref L)) _ _ _
  have I3 : Inv X pins σ H' s' := inv s'.heap (.refl ..)
  obtain ⟨f0, f1, f2', f3, f4, f5⟩ := fC
  refine wpAny_assign_Name (store_ok2 I3 hN hix (.inl hx) (v := .ref L) rfl (fun s'' I4 hb => ?_) (.inr hx))
  obtain ⟨a, sb, ha⟩ := hb
  have hCa : C ≠ a := by
    rcases ha with e | e
    · rw [e]; exact f1
    · exact fun z => f4 x a e z.symm
  refine ⟨m, hn.sameBut sb hCa, fun h'' sb'' => ⟨_, H', I4.turned (t' := s''.toks) (fun b o hb e => (sb''.2 b hb).trans e) f0 f1 f3 f4 f5, q'⟩⟩
end
end L2

set_option Elab.async false
set_option linter.all false
set_option maxRecDepth 100000
set_option maxHeartbeats 4000000
/-! Texts as lists of signs, and what is done with them. -/
namespace L2
open PySem PySem.Spec PyProof.Rows

abbrev S (l : List Nat) : V := .str ⟨l.toArray⟩
theorem Str_ext {a b : Str} (h : a.cps.toList = b.cps.toList) : a = b := by
  cases a; cases b
  simp at h
  rw [h]
theorem S_inj {a b : List Nat} (h : S a = S b) : a = b := by
  injection h with h
  injection h with h
  simpa using congrArg Array.toList h
theorem S_eq {a b : List Nat} : (S a = S b) ↔ a = b := ⟨S_inj, fun h => by rw [h]⟩
theorem S_dec {a b : List Nat} : decide (S a = S b) = decide (a = b) := decide_eq_decide.mpr S_eq

section
variable {X : Cx}
/-- a written text -/
theorem pe_S {l : List Nat} {x : Str} {j pos} (h : x = ⟨l.toArray⟩ := by decide +kernel) : PE X (.Constant (.str x) j pos) (tC (S l)) := by
  subst h
  exact pe_str
theorem S_add (a b : List Nat) : (⟨a.toArray⟩ : Str) ++ (⟨b.toArray⟩ : Str) = ⟨(a ++ b).toArray⟩ := Str_ext (by show (a.toArray ++ b.toArray).toList = _; simp)
def rAddS : R2 := fun x y H Q => ∃ a b, x = S a ∧ y = S b ∧ a.length + b.length ≤ sizeLine ∧ Q (S (a ++ b)) H
theorem op_addS : OpR X (binaryOp .Add) rAddS := by
  intro pins s σ H x y v u Q I rx ry ⟨a, b, ex, ey, hl, q⟩
  subst ex ey
  refine op_add_str pins s σ H _ _ v u Q I rx ry ⟨_, _, rfl, rfl, ?_, ?_⟩
  · show a.toArray.size + b.toArray.size ≤ sizeLine
    simpa using hl
  · rw [S_add]; exact q
def rIxC : R2 := fun x y H Q => ∃ l i c, x = S l ∧ y = .int i ∧ l.length ≤ sizeLine ∧ atI l i = some c ∧ Q (S [c]) H
theorem ix_S : IxR X rIxC := by
  intro value slice pins s σ H x y v u Q I rx ry ⟨l, i, c, ex, ey, hl, hc, q⟩ hs
  subst ex ey
  exact ix_str value slice pins s σ H _ _ v u Q I rx ry ⟨_, i, c, rfl, rfl, by simpa [Str.length] using hl, by simpa using hc, q⟩ hs
theorem call_lenS : CallR X (.builtin "len") (fun xs H Q => ∃ l, xs = [S l] ∧ l.length ≤ sizeLine ∧ Q (.int l.length) H) := by
  intro pins s σ H xs us Q I r ⟨l, e, hl, q⟩
  subst e
  exact call_len_str pins s σ H _ us Q I r ⟨_, rfl, by simpa [Str.length] using hl, by simpa [Str.length] using q⟩
/-- the signs of l[lo:hi] -/
def cutN (l : List Nat) (lo hi : Option Int) : List Nat := (l.drop (HT.sIx l.length 0 lo)).take (HT.sIx l.length l.length hi - HT.sIx l.length 0 lo)
theorem picksN (l : List Nat) (a b : Nat) : ((List.range (b - a)).map fun (k : Nat) => ((a : Int) + 1 * (k : Int)).toNat).filterMap (l.toArray[·]?) = (l.drop a).take (b - a) := by
  have key : ∀ (n a : Nat), ((List.range n).map fun (k : Nat) => ((a : Int) + 1 * (k : Int)).toNat).filterMap (l.toArray[·]?) = (l.drop a).take n := by
    intro n
    induction n with
    | zero => intro a; simp
    | succ n ih =>
      intro a
      rw [List.range_succ, List.map_append, List.filterMap_append, ih a, List.take_add_one]
      congr 1
      simp only [List.map_cons, List.map_nil, List.filterMap_cons, List.filterMap_nil, List.getElem?_drop]
      have e : ((a : Int) + 1 * (n : Int)).toNat = a + n := by omega
      rw [e]
      cases q : l[a + n]? with
      | none => simp [q]
      | some v => simp [q]
  exact key _ a
theorem slice_cut (l : List Nat) (lo hi : Option Int) : Txt.slice ⟨l.toArray⟩ lo hi = ⟨(cutN l lo hi).toArray⟩ := by
  have hb := slice_bounds lo hi l.length
  have ei : Builtin.Str.strSliceIndices lo hi 1 l.length = (List.range (HT.sIx l.length l.length hi - HT.sIx l.length 0 lo)).map fun (k : Nat) => (((HT.sIx l.length 0 lo : Nat) : Int) + 1 * (k : Int)).toNat := by
    obtain ⟨h1, h2, h3⟩ := hb
    show sliceRange (sliceBounds lo hi none l.length).1 (sliceBounds lo hi none l.length).2.1 1 = _
    rw [h1, h2]
    unfold sliceRange
    simp only [show (1 : Int) > 0 by decide, if_true, Int.ediv_one]
    congr 2
    split <;> omega
  have hl : (⟨l.toArray⟩ : Str).length = l.length := by simp [Str.length]
  unfold Txt.slice
  rw [hl, ei]
  have e2 := picksN l (HT.sIx l.length 0 lo) (HT.sIx l.length l.length hi)
  split
  · rename_i h
    simp only [List.length_map, List.length_range] at h
    have h' : HT.sIx l.length l.length hi - HT.sIx l.length 0 lo = l.length := by simpa using h
    have h3 : HT.sIx l.length l.length hi ≤ l.length := HT.sIx_le _ _ (Nat.le_refl _) _
    have h4 : HT.sIx l.length 0 lo = 0 ∨ l.length = 0 := by omega
    apply Str_ext
    simp only [cutN, h']
    rcases h4 with h4 | h4
    · simp [h4]
    · have : l = [] := List.length_eq_zero_iff.mp h4
      subst this
      simp
  · apply Str_ext
    simp only [cutN]
    exact e2
theorem cutN_length (l : List Nat) (lo hi : Option Int) : (cutN l lo hi).length ≤ l.length := by
  simp only [cutN, List.length_take, List.length_drop]
  omega
def rSlS : V → Option Int → Option Int → Hp → VK → Prop := fun x lo hi H Q => ∃ l, x = S l ∧ l.length ≤ sizeLine ∧ Q (S (cutN l lo hi)) H
theorem part_val {v : Value} {o : Option Int} (p : IsPart v o) : ∃ q : Option (Int × Tok), v = partValue q ∧ q.map (·.1) = o := by
  cases p with
  | none => exact ⟨none, rfl, rfl⟩
  | int i t => exact ⟨some (i, t), rfl, rfl⟩
theorem sl_S : SlR X rSlS := by
  intro pins s σ H x v vl vu lo hi sl Q I rx hs pl pu ⟨l, ex, hl, q⟩
  subst ex
  obtain ⟨t, rfl⟩ := rx
  obtain ⟨ql, rfl, rfl⟩ := part_val pl
  obtain ⟨qu, rfl, rfl⟩ := part_val pu
  refine ⟨"str", _, F.slot_str_getitem.lookup, typeIs_str _ _ _, wpAny_getItem_str_slice (l := ql) (u := qu) (st := none) hs rfl ?_⟩
  have e : Txt.slice ⟨l.toArray⟩ (ql.map (·.1)) (qu.map (·.1)) = ⟨(cutN l (ql.map (·.1)) (qu.map (·.1))).toArray⟩ := slice_cut _ _ _
  have hz : (cutN l (ql.map (·.1)) (qu.map (·.1))).length ≤ sizeLine := Nat.le_trans (cutN_length _ _ _) hl
  refine post_val_or_made (fun _ => ?_) fun t' k => ⟨S (cutN l (ql.map (·.1)) (qu.map (·.1))), H, I.tok k, ⟨t', ?_⟩, q⟩
  · refine Nat.le_trans ?_ hl
    have := Txt.slice_le ⟨l.toArray⟩ (ql.map (·.1)) (qu.map (·.1))
    refine Nat.le_trans (List.length_filterMap_le _ _ |> fun h => (by simpa [Str.length] using h)) ?_
    have h2 := sliceIndices_le (ql.map (·.1)) (qu.map (·.1)) l.length
    simpa [slicePicked, Str.length] using h2
  · rw [← e]
    rfl
/-! ### how often a sign is in a text -/
/-! ### walking a text -/
/-! ### all, any of a list of bools -/
/-! ### isinstance(x, str) -/
/-! ### is True, is not False .. -/
end
end L2

set_option Elab.async false
set_option linter.all false
set_option maxRecDepth 100000
set_option maxHeartbeats 4000000
/-! Data of any depth, and == of them. -/
namespace L2
open PySem PySem.Spec PyProof.Rows

section
variable (K : PySem.W.Frag) (H : Hp)
mutual
/-- the value v stands for d -/
def Rep : Dt → V → Prop
  | .non, v => v = .non
  | .bl b, v => v = .bl b
  | .int i, v => v = .int i
  | .str l, v => v = S l
  | .tup ds, v => ∃ a xs, v = .ref a ∧ SqT K H a xs ∧ Reps ds xs
  | .lst ds, v => ∃ a xs, v = .ref a ∧ SqL K H a xs ∧ Reps ds xs
def Reps : List Dt → List V → Prop
  | [], xs => xs = []
  | d :: ds, xs => ∃ x r, xs = x :: r ∧ Rep d x ∧ Reps ds r
end
end
theorem Same.seqT {K : PySem.W.Frag} {H H' : Hp} {a : Addr} {xs : List V} (e : Same H H') (h : SqT K H a xs) : SqT K H' a xs := by
  rcases h with (h | ⟨o, h⟩) | h
  · exact .inl (.inl (e _ _ h))
  · exact .inl (.inr ⟨o, e _ _ h⟩)
  · exact .inr h
mutual
theorem Rep.mono {K : PySem.W.Frag} {H H' : Hp} (e : Same H H') : ∀ {d : Dt} {v : V}, Rep K H d v → Rep K H' d v
  | .non, _, h => by simpa only [Rep] using h
  | .bl _, _, h => by simpa only [Rep] using h
  | .int _, _, h => by simpa only [Rep] using h
  | .str _, _, h => by simpa only [Rep] using h
  | .tup ds, _, h => by
    simp only [Rep] at h ⊢
    obtain ⟨a, xs, h1, h2, h3⟩ := h
    exact ⟨a, xs, h1, e.seqT h2, Reps.mono e h3⟩
  | .lst ds, _, h => by
    simp only [Rep] at h ⊢
    obtain ⟨a, xs, h1, h2, h3⟩ := h
    exact ⟨a, xs, h1, e.seq h2, Reps.mono e h3⟩
theorem Reps.mono {K : PySem.W.Frag} {H H' : Hp} (e : Same H H') : ∀ {ds : List Dt} {xs : List V}, Reps K H ds xs → Reps K H' ds xs
  | [], _, h => by simpa only [Reps] using h
  | d :: ds, _, h => by
    simp only [Reps] at h ⊢
    obtain ⟨x, r, h1, h2, h3⟩ := h
    exact ⟨x, r, h1, Rep.mono e h2, Reps.mono e h3⟩
end
theorem Reps.nil {K : PySem.W.Frag} {H : Hp} : Reps K H [] [] := by simp only [Reps]
theorem Reps.cons {K : PySem.W.Frag} {H : Hp} {d : Dt} {ds : List Dt} {x : V} {xs : List V} (h : Rep K H d x) (t : Reps K H ds xs) : Reps K H (d :: ds) (x :: xs) := by
  simp only [Reps]
  exact ⟨x, xs, rfl, h, t⟩
theorem Reps.length {K : PySem.W.Frag} {H : Hp} : ∀ {ds : List Dt} {xs : List V}, Reps K H ds xs → ds.length = xs.length
  | [], _, h => by simp only [Reps] at h; subst h; rfl
  | d :: ds, _, h => by
    simp only [Reps] at h
    obtain ⟨x, r, rfl, _, h3⟩ := h
    simp [Reps.length h3]
theorem Reps.get {K : PySem.W.Frag} {H : Hp} : ∀ {ds : List Dt} {xs : List V} {i : Nat} {x : V}, Reps K H ds xs → xs[i]? = some x → ∃ d, ds[i]? = some d ∧ Rep K H d x
  | [], _, i, x, h, e => by simp only [Reps] at h; subst h; simp at e
  | d :: ds, _, 0, x, h, e => by
    simp only [Reps] at h
    obtain ⟨y, r, rfl, h2, _⟩ := h
    simp at e
    subst e
    exact ⟨d, rfl, h2⟩
  | d :: ds, _, i + 1, x, h, e => by
    simp only [Reps] at h
    obtain ⟨y, r, rfl, _, h3⟩ := h
    obtain ⟨d', a, b⟩ := Reps.get (i := i) (x := x) h3 (by simpa using e)
    exact ⟨d', by simpa using a, b⟩
theorem Reps.append {K : PySem.W.Frag} {H : Hp} : ∀ {ds es : List Dt} {xs ys : List V}, Reps K H ds xs → Reps K H es ys → Reps K H (ds ++ es) (xs ++ ys)
  | [], es, xs, ys, h, t => by simp only [Reps] at h; subst h; simpa using t
  | d :: ds, es, xs, ys, h, t => by
    simp only [Reps] at h
    obtain ⟨x, r, rfl, h2, h3⟩ := h
    exact .cons h2 (Reps.append h3 t)
theorem rep_int {K : PySem.W.Frag} {H : Hp} {i : Int} : Rep K H (.int i) (.int i) := by simp only [Rep]
theorem rep_str {K : PySem.W.Frag} {H : Hp} {l : List Nat} : Rep K H (.str l) (S l) := by simp only [Rep]
theorem rep_tup {K : PySem.W.Frag} {H : Hp} {a : Addr} {xs : List V} {ds : List Dt} (h : H a = some (.tup xs)) (r : Reps K H ds xs) : Rep K H (.tup ds) (.ref a) := by
  simp only [Rep]
  exact ⟨a, xs, rfl, .of h, r⟩
theorem rep_lst {K : PySem.W.Frag} {H : Hp} {a : Addr} {xs : List V} {ds : List Dt} (h : H a = some (.lst xs)) (r : Reps K H ds xs) : Rep K H (.lst ds) (.ref a) := by
  simp only [Rep]
  exact ⟨a, xs, rfl, .of h, r⟩
theorem Inv.list_tuple {X : Cx} {pins : List (Addr × Obj)} {σ : St} {H : Hp} {s : Shared} {a : Addr} {xs ys : List V} (I : Inv X pins σ H s) (h : SqL X.K H a xs) (h' : SqT X.K H a ys) : False := by
  obtain ⟨its, r, ⟨o, n, e, c, _⟩, _⟩ := I.list h
  obtain ⟨its', r', ⟨o', e', c', _⟩, _⟩ := I.tuple h'
  rw [e] at e'
  cases e'
  rw [c] at c'
  injection c' with c'
  exact absurd c' (by decide)
mutual
theorem Rep.inj {X : Cx} {pins : List (Addr × Obj)} {σ : St} {H : Hp} {s : Shared} (I : Inv X pins σ H s) : ∀ {d e : Dt} {v : V}, Rep X.K H d v → Rep X.K H e v → d = e
  | .non, e, v, h, h' => by
    simp only [Rep] at h
    subst h
    cases e <;> simp only [Rep] at h' <;> first | rfl | (exfalso; first | exact nomatch h' | (obtain ⟨_, _, z, _⟩ := h'; exact nomatch z))
  | .bl b, e, v, h, h' => by
    simp only [Rep] at h
    subst h
    cases e <;> simp only [Rep] at h' <;> first | (injection h' with h'; rw [h']) | (exfalso; first | exact nomatch h' | (obtain ⟨_, _, z, _⟩ := h'; exact nomatch z))
  | .int i, e, v, h, h' => by
    simp only [Rep] at h
    subst h
    cases e <;> simp only [Rep] at h' <;> first | (injection h' with h'; rw [h']) | (exfalso; first | exact nomatch h' | (obtain ⟨_, _, z, _⟩ := h'; exact nomatch z))
  | .str l, e, v, h, h' => by
    simp only [Rep] at h
    subst h
    cases e with
    | str l' => simp only [Rep] at h'; rw [S_inj h']
    | _ => simp only [Rep] at h'; exfalso; first | exact nomatch h' | (obtain ⟨_, _, z, _⟩ := h'; exact nomatch z)
  | .tup ds, e, v, h, h' => by
    simp only [Rep] at h
    obtain ⟨a, xs, rfl, h2, h3⟩ := h
    cases e with
    | tup es =>
      simp only [Rep] at h'
      obtain ⟨b, ys, hb, h4, h5⟩ := h'
      cases hb
      rw [I.tuple_inj h2 h4] at h3
      rw [Reps.inj I h3 h5]
    | lst es =>
      simp only [Rep] at h'
      obtain ⟨b, ys, hb, h4, h5⟩ := h'
      cases hb
      exact (I.list_tuple h4 h2).elim
    | _ => simp only [Rep] at h'; exfalso; exact nomatch h'
  | .lst ds, e, v, h, h' => by
    simp only [Rep] at h
    obtain ⟨a, xs, rfl, h2, h3⟩ := h
    cases e with
    | lst es =>
      simp only [Rep] at h'
      obtain ⟨b, ys, hb, h4, h5⟩ := h'
      cases hb
      rw [I.list_inj h2 h4] at h3
      rw [Reps.inj I h3 h5]
    | tup es =>
      simp only [Rep] at h'
      obtain ⟨b, ys, hb, h4, h5⟩ := h'
      cases hb
      exact (I.list_tuple h2 h4).elim
    | _ => simp only [Rep] at h'; exfalso; exact nomatch h'
theorem Reps.inj {X : Cx} {pins : List (Addr × Obj)} {σ : St} {H : Hp} {s : Shared} (I : Inv X pins σ H s) : ∀ {ds es : List Dt} {xs : List V}, Reps X.K H ds xs → Reps X.K H es xs → ds = es
  | [], es, xs, h, h' => by
    simp only [Reps] at h
    subst h
    cases es with
    | nil => rfl
    | cons e es => simp only [Reps] at h'; obtain ⟨_, _, z, _⟩ := h'; cases z
  | d :: ds, es, xs, h, h' => by
    simp only [Reps] at h
    obtain ⟨x, r, rfl, h2, h3⟩ := h
    cases es with
    | nil => simp only [Reps] at h'; cases h'
    | cons e es =>
      simp only [Reps] at h'
      obtain ⟨y, t, z, h4, h5⟩ := h'
      injection z with z1 z2
      subst z1 z2
      rw [Rep.inj I h2 h4, Reps.inj I h3 h5]
end

mutual
theorem eqD_refl : ∀ d : Dt, eqD d d = true
  | .non => rfl
  | .bl b => by simp [eqD]
  | .int b => by simp [eqD]
  | .str b => by simp [eqD]
  | .tup b => by simp only [eqD]; exact eqDs_refl b
  | .lst b => by simp only [eqD]; exact eqDs_refl b
theorem eqDs_refl : ∀ d : List Dt, eqDs d d = true
  | [] => rfl
  | a :: r => by simp only [eqDs]; rw [eqD_refl a, eqDs_refl r]; rfl
end
theorem eqDs_len : ∀ {a b : List Dt}, a.length ≠ b.length → eqDs a b = false
  | [], [], h => absurd rfl h
  | [], _ :: _, _ => by simp only [eqDs]
  | _ :: _, [], _ => by simp only [eqDs]
  | a :: r, b :: t, h => by
    simp only [eqDs]
    rw [eqDs_len (a := r) (b := t) (by simpa using h), Bool.and_false]
theorem eqDs_all : ∀ (a b : List Dt), a.length = b.length → (List.range a.length).all (fun i => match a[i]?, b[i]? with | some x, some y => eqD x y | _, _ => true) = eqDs a b
  | [], [], _ => by simp [eqDs]
  | x :: r, y :: t, h => by
    have ih := eqDs_all r t (by simpa using h)
    simp only [List.length_cons, eqDs]
    rw [List.range_succ_eq_map, List.all_cons, List.all_map]
    simp only [List.getElem?_cons_zero]
    rw [← ih]
    congr 1
theorem str_beqS (a b : List Nat) : ((⟨a.toArray⟩ : Str) == ⟨b.toArray⟩) = (a == b) := by
  rw [Bool.eq_iff_iff]
  simp only [beq_iff_eq]
  constructor
  · intro h
    injection h with h
    simpa using congrArg Array.toList h
  · intro h; rw [h]
theorem dep_mem {d : Dt} : ∀ {ds : List Dt}, d ∈ ds → dep d ≤ deps ds
  | e :: ds, h => by
    simp only [deps]
    rcases List.mem_cons.mp h with h | h
    · subst h; omega
    · have := dep_mem h; omega
section
variable {X : Cx} {pins : List (Addr × Obj)} {σ : St} {H : Hp} {s : Shared}
theorem Inv.repL (I : Inv X pins σ H s) {ds : List Dt} {v : V} (h : Rep X.K H (.lst ds) v) : ∃ a xs, v = .ref a ∧ SqL X.K H a xs ∧ Reps X.K H ds xs ∧ ∃ its : List Value, Vals xs its ∧ s.heap.IsList a its.toArray := by
  simp only [Rep] at h
  obtain ⟨a, xs, rfl, h2, h3⟩ := h
  obtain ⟨its, r, p, _⟩ := I.list h2
  exact ⟨a, xs, rfl, h2, h3, its, r, p.isList⟩
theorem Inv.repT (I : Inv X pins σ H s) {ds : List Dt} {v : V} (h : Rep X.K H (.tup ds) v) : ∃ a xs, v = .ref a ∧ SqT X.K H a xs ∧ Reps X.K H ds xs ∧ ∃ its : List Value, Vals xs its ∧ s.heap.IsTuple a its.toArray := by
  simp only [Rep] at h
  obtain ⟨a, xs, rfl, h2, h3⟩ := h
  obtain ⟨its, r, p, _⟩ := I.tuple h2
  exact ⟨a, xs, rfl, h2, h3, its, r, p⟩
/-- what the items answer -/
theorem items_eq (A : Around) (I : Inv X pins σ H s) {ds es : List Dt} {xs ys : List V} {us vs : List Value} (rx : Reps X.K H ds xs) (ry : Reps X.K H es ys) (ru : Vals xs us) (rv : Vals ys vs)
    (ih : ∀ d ∈ ds, ∀ e v w u t, Rep X.K H d v → Rep X.K H e w → RelV v u → RelV w t → SeqAt.EqAt A s u t (eqD d e)) :
    ∀ j (h1 : j < us.toArray.size) (h2 : j < vs.toArray.size), SeqAt.EqAt A s us.toArray[j] vs.toArray[j] ((fun i => match ds[i]?, es[i]? with | some x, some y => eqD x y | _, _ => true) j) := by
  intro j h1 h2
  have h1' : j < us.length := by simpa using h1
  have h2' : j < vs.length := by simpa using h2
  have e1 := ru.length
  have e2 := rv.length
  have hx : j < xs.length := by omega
  have hy : j < ys.length := by omega
  obtain ⟨d, hd, rd⟩ := rx.get (i := j) (x := xs[j]) (by simp [hx])
  obtain ⟨e, he, re⟩ := ry.get (i := j) (x := ys[j]) (by simp [hy])
  obtain ⟨u, hu, ru'⟩ := ru.get (i := j) (x := xs[j]) (by simp [hx])
  obtain ⟨t, ht, rt'⟩ := rv.get (i := j) (x := ys[j]) (by simp [hy])
  have hu' : us[j] = u := by simpa [h1'] using hu
  have ht' : vs[j] = t := by simpa [h2'] using ht
  have hm : d ∈ ds := List.mem_of_getElem? hd
  simp only [hd, he, List.getElem_toArray, hu', ht']
  exact ih d hm e _ _ u t rd re ru' rt'

theorem lists_rc (A : Around) (I : Inv X pins σ H s) {a b : Addr} {ds es : List Dt} {xs ys : List V} {us vs : List Value} (rx : Reps X.K H ds xs) (ry : Reps X.K H es ys) (ru : Vals xs us) (rv : Vals ys vs)
    (pa : s.heap.IsList a us.toArray) (pb : s.heap.IsList b vs.toArray) (hu : A.units < cLine)
    (ih : ∀ d ∈ ds, ∀ e v w u t, Rep X.K H d v → Rep X.K H e w → RelV v u → RelV w t → SeqAt.EqAt A.in1 s u t (eqD d e)) : SeqAt.RcAt A s (.ref a) (.ref b) (eqD (.lst ds) (.lst es)) := by
  have l1 := rx.length
  have l2 := ry.length
  have l3 := ru.length
  have l4 := rv.length
  simp only [eqD]
  by_cases hl : ds.length = es.length
  · have z := SeqAt.RcAt.lists pa pb (by simp; omega) hu (items_eq A.in1 I rx ry ru rv ih)
    rw [show us.toArray.size = ds.length by simp; omega] at z
    rw [eqDs_all ds es hl] at z
    exact z
  · have z := SeqAt.RcAt.lists_lengths pa pb (by simp; omega) hu
    rw [eqDs_len hl]
    exact z
theorem tuples_rc (A : Around) (I : Inv X pins σ H s) {a b : Addr} {ds es : List Dt} {xs ys : List V} {us vs : List Value} (rx : Reps X.K H ds xs) (ry : Reps X.K H es ys) (ru : Vals xs us) (rv : Vals ys vs)
    (pa : s.heap.IsTuple a us.toArray) (pb : s.heap.IsTuple b vs.toArray) (hu : A.units < cLine)
    (ih : ∀ d ∈ ds, ∀ e v w u t, Rep X.K H d v → Rep X.K H e w → RelV v u → RelV w t → SeqAt.EqAt A.in1 s u t (eqD d e)) : SeqAt.RcAt A s (.ref a) (.ref b) (eqD (.tup ds) (.tup es)) := by
  have l1 := rx.length
  have l2 := ry.length
  have l3 := ru.length
  have l4 := rv.length
  simp only [eqD]
  have z := SeqAt.RcAt.tuples pa pb hu (items_eq A.in1 I rx ry ru rv ih)
  by_cases hl : ds.length = es.length
  · rw [show min us.toArray.size vs.toArray.size = ds.length by simp; omega, show (us.toArray.size == vs.toArray.size) = true by simp; omega, Bool.and_true] at z
    rw [eqDs_all ds es hl] at z
    exact z
  · rw [show (us.toArray.size == vs.toArray.size) = false by simp; omega, Bool.and_false] at z
    rw [eqDs_len hl]
    exact z

theorem eqAt_rep {A : Around} (I : Inv X pins σ H s) : ∀ (d e : Dt) (v w : V) (u t : Value), Rep X.K H d v → Rep X.K H e w → RelV v u → RelV w t → A.units + dep d < cLine → SeqAt.EqAt A s u t (eqD d e)
  | .non, .non, v, w, u, t, h, h', r, r', hu => by
    simp only [Rep] at h
    subst h
    cases r
    simp only [Rep] at h'
    subst h'
    cases r'
    simp only [eqD]
    exact SeqAt.EqAt.same _ 
  | .non, .bl _, v, w, u, t, h, h', r, r', hu => by
    simp only [Rep] at h
    subst h
    cases r
    simp only [Rep] at h'
    subst h'
    cases r'
    simp only [eqD]
    exact SeqAt.EqAt.none_bool _
  | .non, .int _, v, w, u, t, h, h', r, r', hu => by
    simp only [Rep] at h
    subst h
    cases r
    simp only [Rep] at h'
    subst h'
    obtain ⟨t2, rfl⟩ := r'
    simp only [eqD]
    exact SeqAt.EqAt.none_int _ _
  | .non, .str lb, v, w, u, t, h, h', r, r', hu => by
    simp only [Rep] at h
    subst h
    cases r
    simp only [Rep] at h'
    subst h'
    obtain ⟨t2, rfl⟩ := r'
    simp only [eqD]
    exact SeqAt.EqAt.none_str _ _
  | .non, .tup es, v, w, u, t, h, h', r, r', hu => by
    simp only [Rep] at h
    subst h
    cases r
    obtain ⟨a2, xs2, rfl, _, _, its2, _, p2⟩ := I.repT h'
    cases r'
    simp only [eqD]
    exact SeqAt.EqAt.none_tuple  p2 (by omega)
  | .non, .lst es, v, w, u, t, h, h', r, r', hu => by
    simp only [Rep] at h
    subst h
    cases r
    obtain ⟨a2, xs2, rfl, _, _, its2, _, p2⟩ := I.repL h'
    cases r'
    simp only [eqD]
    exact SeqAt.EqAt.none_list  p2 (by omega)
  | .bl _, .non, v, w, u, t, h, h', r, r', hu => by
    simp only [Rep] at h
    subst h
    cases r
    simp only [Rep] at h'
    subst h'
    cases r'
    simp only [eqD]
    exact SeqAt.EqAt.bool_none _
  | .bl _, .bl _, v, w, u, t, h, h', r, r', hu => by
    simp only [Rep] at h
    subst h
    cases r
    simp only [Rep] at h'
    subst h'
    cases r'
    simp only [eqD]
    exact SeqAt.EqAt.bool_bool _ _
  | .bl _, .int _, v, w, u, t, h, h', r, r', hu => by
    simp only [Rep] at h
    subst h
    cases r
    simp only [Rep] at h'
    subst h'
    obtain ⟨t2, rfl⟩ := r'
    simp only [eqD]
    exact SeqAt.EqAt.bool_int _ _ _
  | .bl _, .str lb, v, w, u, t, h, h', r, r', hu => by
    simp only [Rep] at h
    subst h
    cases r
    simp only [Rep] at h'
    subst h'
    obtain ⟨t2, rfl⟩ := r'
    simp only [eqD]
    exact SeqAt.EqAt.bool_str _ _ _
  | .bl _, .tup es, v, w, u, t, h, h', r, r', hu => by
    simp only [Rep] at h
    subst h
    cases r
    obtain ⟨a2, xs2, rfl, _, _, its2, _, p2⟩ := I.repT h'
    cases r'
    simp only [eqD]
    exact SeqAt.EqAt.bool_tuple _ p2 (by omega)
  | .bl _, .lst es, v, w, u, t, h, h', r, r', hu => by
    simp only [Rep] at h
    subst h
    cases r
    obtain ⟨a2, xs2, rfl, _, _, its2, _, p2⟩ := I.repL h'
    cases r'
    simp only [eqD]
    exact SeqAt.EqAt.bool_list _ p2 (by omega)
  | .int _, .non, v, w, u, t, h, h', r, r', hu => by
    simp only [Rep] at h
    subst h
    obtain ⟨t1, rfl⟩ := r
    simp only [Rep] at h'
    subst h'
    cases r'
    simp only [eqD]
    exact SeqAt.EqAt.int_none _ _
  | .int _, .bl _, v, w, u, t, h, h', r, r', hu => by
    simp only [Rep] at h
    subst h
    obtain ⟨t1, rfl⟩ := r
    simp only [Rep] at h'
    subst h'
    cases r'
    simp only [eqD]
    exact SeqAt.EqAt.int_bool _ _ _
  | .int _, .int _, v, w, u, t, h, h', r, r', hu => by
    simp only [Rep] at h
    subst h
    obtain ⟨t1, rfl⟩ := r
    simp only [Rep] at h'
    subst h'
    obtain ⟨t2, rfl⟩ := r'
    simp only [eqD]
    exact SeqAt.EqAt.int_int _ _ _ _
  | .int _, .str lb, v, w, u, t, h, h', r, r', hu => by
    simp only [Rep] at h
    subst h
    obtain ⟨t1, rfl⟩ := r
    simp only [Rep] at h'
    subst h'
    obtain ⟨t2, rfl⟩ := r'
    simp only [eqD]
    exact SeqAt.EqAt.int_str _ _ _ _
  | .int _, .tup es, v, w, u, t, h, h', r, r', hu => by
    simp only [Rep] at h
    subst h
    obtain ⟨t1, rfl⟩ := r
    obtain ⟨a2, xs2, rfl, _, _, its2, _, p2⟩ := I.repT h'
    cases r'
    simp only [eqD]
    exact SeqAt.EqAt.int_tuple _ _ p2 (by omega)
  | .int _, .lst es, v, w, u, t, h, h', r, r', hu => by
    simp only [Rep] at h
    subst h
    obtain ⟨t1, rfl⟩ := r
    obtain ⟨a2, xs2, rfl, _, _, its2, _, p2⟩ := I.repL h'
    cases r'
    simp only [eqD]
    exact SeqAt.EqAt.int_list _ _ p2 (by omega)
  | .str la, .non, v, w, u, t, h, h', r, r', hu => by
    simp only [Rep] at h
    subst h
    obtain ⟨t1, rfl⟩ := r
    simp only [Rep] at h'
    subst h'
    cases r'
    simp only [eqD]
    exact SeqAt.EqAt.str_none _ _
  | .str la, .bl _, v, w, u, t, h, h', r, r', hu => by
    simp only [Rep] at h
    subst h
    obtain ⟨t1, rfl⟩ := r
    simp only [Rep] at h'
    subst h'
    cases r'
    simp only [eqD]
    exact SeqAt.EqAt.str_bool _ _ _
  | .str la, .int _, v, w, u, t, h, h', r, r', hu => by
    simp only [Rep] at h
    subst h
    obtain ⟨t1, rfl⟩ := r
    simp only [Rep] at h'
    subst h'
    obtain ⟨t2, rfl⟩ := r'
    simp only [eqD]
    exact SeqAt.EqAt.str_int _ _ _ _
  | .str la, .str lb, v, w, u, t, h, h', r, r', hu => by
    simp only [Rep] at h
    subst h
    obtain ⟨t1, rfl⟩ := r
    simp only [Rep] at h'
    subst h'
    obtain ⟨t2, rfl⟩ := r'
    have z := SeqAt.EqAt.str_str (A := A) (s := s) ⟨la.toArray⟩ t1 ⟨lb.toArray⟩ t2
    rw [str_beqS] at z
    simpa only [eqD] using z
  | .str la, .tup es, v, w, u, t, h, h', r, r', hu => by
    simp only [Rep] at h
    subst h
    obtain ⟨t1, rfl⟩ := r
    obtain ⟨a2, xs2, rfl, _, _, its2, _, p2⟩ := I.repT h'
    cases r'
    simp only [eqD]
    exact SeqAt.EqAt.str_tuple _ _ p2 (by omega)
  | .str la, .lst es, v, w, u, t, h, h', r, r', hu => by
    simp only [Rep] at h
    subst h
    obtain ⟨t1, rfl⟩ := r
    obtain ⟨a2, xs2, rfl, _, _, its2, _, p2⟩ := I.repL h'
    cases r'
    simp only [eqD]
    exact SeqAt.EqAt.str_list _ _ p2 (by omega)
  | .tup ds, .non, v, w, u, t, h, h', r, r', hu => by
    obtain ⟨a1, xs1, rfl, _, _, its1, _, p1⟩ := I.repT h
    cases r
    simp only [Rep] at h'
    subst h'
    cases r'
    simp only [eqD]
    exact SeqAt.EqAt.tuple_none  p1 (by omega)
  | .tup ds, .bl _, v, w, u, t, h, h', r, r', hu => by
    obtain ⟨a1, xs1, rfl, _, _, its1, _, p1⟩ := I.repT h
    cases r
    simp only [Rep] at h'
    subst h'
    cases r'
    simp only [eqD]
    exact SeqAt.EqAt.tuple_bool _ p1 (by omega)
  | .tup ds, .int _, v, w, u, t, h, h', r, r', hu => by
    obtain ⟨a1, xs1, rfl, _, _, its1, _, p1⟩ := I.repT h
    cases r
    simp only [Rep] at h'
    subst h'
    obtain ⟨t2, rfl⟩ := r'
    simp only [eqD]
    exact SeqAt.EqAt.tuple_int _ _ p1 (by omega)
  | .tup ds, .str lb, v, w, u, t, h, h', r, r', hu => by
    obtain ⟨a1, xs1, rfl, _, _, its1, _, p1⟩ := I.repT h
    cases r
    simp only [Rep] at h'
    subst h'
    obtain ⟨t2, rfl⟩ := r'
    simp only [eqD]
    exact SeqAt.EqAt.tuple_str _ _ p1 (by omega)
  | .tup ds, .lst es, v, w, u, t, h, h', r, r', hu => by
    obtain ⟨a1, xs1, rfl, _, _, its1, _, p1⟩ := I.repT h
    cases r
    obtain ⟨a2, xs2, rfl, _, _, its2, _, p2⟩ := I.repL h'
    cases r'
    simp only [eqD]
    exact SeqAt.EqAt.tuple_list  p1 p2 (by omega)
  | .lst ds, .non, v, w, u, t, h, h', r, r', hu => by
    obtain ⟨a1, xs1, rfl, _, _, its1, _, p1⟩ := I.repL h
    cases r
    simp only [Rep] at h'
    subst h'
    cases r'
    simp only [eqD]
    exact SeqAt.EqAt.list_none  p1 (by omega)
  | .lst ds, .bl _, v, w, u, t, h, h', r, r', hu => by
    obtain ⟨a1, xs1, rfl, _, _, its1, _, p1⟩ := I.repL h
    cases r
    simp only [Rep] at h'
    subst h'
    cases r'
    simp only [eqD]
    exact SeqAt.EqAt.list_bool _ p1 (by omega)
  | .lst ds, .int _, v, w, u, t, h, h', r, r', hu => by
    obtain ⟨a1, xs1, rfl, _, _, its1, _, p1⟩ := I.repL h
    cases r
    simp only [Rep] at h'
    subst h'
    obtain ⟨t2, rfl⟩ := r'
    simp only [eqD]
    exact SeqAt.EqAt.list_int _ _ p1 (by omega)
  | .lst ds, .str lb, v, w, u, t, h, h', r, r', hu => by
    obtain ⟨a1, xs1, rfl, _, _, its1, _, p1⟩ := I.repL h
    cases r
    simp only [Rep] at h'
    subst h'
    obtain ⟨t2, rfl⟩ := r'
    simp only [eqD]
    exact SeqAt.EqAt.list_str _ _ p1 (by omega)
  | .lst ds, .tup es, v, w, u, t, h, h', r, r', hu => by
    obtain ⟨a1, xs1, rfl, _, _, its1, _, p1⟩ := I.repL h
    cases r
    obtain ⟨a2, xs2, rfl, _, _, its2, _, p2⟩ := I.repT h'
    cases r'
    simp only [eqD]
    exact SeqAt.EqAt.list_tuple  p1 p2 (by omega)
  | .lst ds, .lst es, v, w, u, t, h, h', r, r', hu => by
    obtain ⟨a1, xs1, rfl, s1, q1, its1, v1, p1⟩ := I.repL h
    obtain ⟨a2, xs2, rfl, s2, q2, its2, v2, p2⟩ := I.repL h'
    cases r
    cases r'
    by_cases hab : a1 = a2
    · subst hab
      have e := Rep.inj I h h'
      rw [e, eqD_refl]
      exact .same _
    · exact .of_refs hab (lists_rc A I q1 q2 v1 v2 p1 p2 (by omega) fun d hd e v w u t hv hw rv rw' => eqAt_rep (A := A.in1) I d e v w u t hv hw rv rw' (by
        have := dep_mem hd
        simp only [dep] at hu
        show A.units + 1 + dep d < cLine
        omega))
  | .tup ds, .tup es, v, w, u, t, h, h', r, r', hu => by
    obtain ⟨a1, xs1, rfl, s1, q1, its1, v1, p1⟩ := I.repT h
    obtain ⟨a2, xs2, rfl, s2, q2, its2, v2, p2⟩ := I.repT h'
    cases r
    cases r'
    by_cases hab : a1 = a2
    · subst hab
      have e := Rep.inj I h h'
      rw [e, eqD_refl]
      exact .same _
    · exact .of_refs hab (tuples_rc A I q1 q2 v1 v2 p1 p2 (by omega) fun d hd e v w u t hv hw rv rw' => eqAt_rep (A := A.in1) I d e v w u t hv hw rv rw' (by
        have := dep_mem hd
        simp only [dep] at hu
        show A.units + 1 + dep d < cLine
        omega))
termination_by d => sizeOf d
decreasing_by
  all_goals
    have := List.sizeOf_lt_of_mem hd
    simp_wf
    omega

theorem rcAt_rep {A : Around} (I : Inv X pins σ H s) : ∀ (d e : Dt) (v w : V) (u t : Value), Rep X.K H d v → Rep X.K H e w → RelV v u → RelV w t → A.units + dep d < cLine → SeqAt.RcAt A s u t (eqD d e)
  | .non, .non, v, w, u, t, h, h', r, r', hu => by
    simp only [Rep] at h
    subst h
    cases r
    simp only [Rep] at h'
    subst h'
    cases r'
    simp only [eqD]
    exact SeqAt.RcAt.none_none 
  | .non, .bl _, v, w, u, t, h, h', r, r', hu => by
    simp only [Rep] at h
    subst h
    cases r
    simp only [Rep] at h'
    subst h'
    cases r'
    simp only [eqD]
    exact SeqAt.RcAt.none_bool _
  | .non, .int _, v, w, u, t, h, h', r, r', hu => by
    simp only [Rep] at h
    subst h
    cases r
    simp only [Rep] at h'
    subst h'
    obtain ⟨t2, rfl⟩ := r'
    simp only [eqD]
    exact SeqAt.RcAt.none_int _ _
  | .non, .str lb, v, w, u, t, h, h', r, r', hu => by
    simp only [Rep] at h
    subst h
    cases r
    simp only [Rep] at h'
    subst h'
    obtain ⟨t2, rfl⟩ := r'
    simp only [eqD]
    exact SeqAt.RcAt.none_str _ _
  | .non, .tup es, v, w, u, t, h, h', r, r', hu => by
    simp only [Rep] at h
    subst h
    cases r
    obtain ⟨a2, xs2, rfl, _, _, its2, _, p2⟩ := I.repT h'
    cases r'
    simp only [eqD]
    exact SeqAt.RcAt.none_tuple  p2 (by omega)
  | .non, .lst es, v, w, u, t, h, h', r, r', hu => by
    simp only [Rep] at h
    subst h
    cases r
    obtain ⟨a2, xs2, rfl, _, _, its2, _, p2⟩ := I.repL h'
    cases r'
    simp only [eqD]
    exact SeqAt.RcAt.none_list  p2 (by omega)
  | .bl _, .non, v, w, u, t, h, h', r, r', hu => by
    simp only [Rep] at h
    subst h
    cases r
    simp only [Rep] at h'
    subst h'
    cases r'
    simp only [eqD]
    exact SeqAt.RcAt.bool_none _
  | .bl _, .bl _, v, w, u, t, h, h', r, r', hu => by
    simp only [Rep] at h
    subst h
    cases r
    simp only [Rep] at h'
    subst h'
    cases r'
    simp only [eqD]
    exact SeqAt.RcAt.bool_bool _ _
  | .bl _, .int _, v, w, u, t, h, h', r, r', hu => by
    simp only [Rep] at h
    subst h
    cases r
    simp only [Rep] at h'
    subst h'
    obtain ⟨t2, rfl⟩ := r'
    simp only [eqD]
    exact SeqAt.RcAt.bool_int _ _ _
  | .bl _, .str lb, v, w, u, t, h, h', r, r', hu => by
    simp only [Rep] at h
    subst h
    cases r
    simp only [Rep] at h'
    subst h'
    obtain ⟨t2, rfl⟩ := r'
    simp only [eqD]
    exact SeqAt.RcAt.bool_str _ _ _
  | .bl _, .tup es, v, w, u, t, h, h', r, r', hu => by
    simp only [Rep] at h
    subst h
    cases r
    obtain ⟨a2, xs2, rfl, _, _, its2, _, p2⟩ := I.repT h'
    cases r'
    simp only [eqD]
    exact SeqAt.RcAt.bool_tuple _ p2 (by omega)
  | .bl _, .lst es, v, w, u, t, h, h', r, r', hu => by
    simp only [Rep] at h
    subst h
    cases r
    obtain ⟨a2, xs2, rfl, _, _, its2, _, p2⟩ := I.repL h'
    cases r'
    simp only [eqD]
    exact SeqAt.RcAt.bool_list _ p2 (by omega)
  | .int _, .non, v, w, u, t, h, h', r, r', hu => by
    simp only [Rep] at h
    subst h
    obtain ⟨t1, rfl⟩ := r
    simp only [Rep] at h'
    subst h'
    cases r'
    simp only [eqD]
    exact SeqAt.RcAt.int_none _ _
  | .int _, .bl _, v, w, u, t, h, h', r, r', hu => by
    simp only [Rep] at h
    subst h
    obtain ⟨t1, rfl⟩ := r
    simp only [Rep] at h'
    subst h'
    cases r'
    simp only [eqD]
    exact SeqAt.RcAt.int_bool _ _ _
  | .int _, .int _, v, w, u, t, h, h', r, r', hu => by
    simp only [Rep] at h
    subst h
    obtain ⟨t1, rfl⟩ := r
    simp only [Rep] at h'
    subst h'
    obtain ⟨t2, rfl⟩ := r'
    simp only [eqD]
    exact SeqAt.RcAt.int_int _ _ _ _
  | .int _, .str lb, v, w, u, t, h, h', r, r', hu => by
    simp only [Rep] at h
    subst h
    obtain ⟨t1, rfl⟩ := r
    simp only [Rep] at h'
    subst h'
    obtain ⟨t2, rfl⟩ := r'
    simp only [eqD]
    exact SeqAt.RcAt.int_str _ _ _ _
  | .int _, .tup es, v, w, u, t, h, h', r, r', hu => by
    simp only [Rep] at h
    subst h
    obtain ⟨t1, rfl⟩ := r
    obtain ⟨a2, xs2, rfl, _, _, its2, _, p2⟩ := I.repT h'
    cases r'
    simp only [eqD]
    exact SeqAt.RcAt.int_tuple _ _ p2 (by omega)
  | .int _, .lst es, v, w, u, t, h, h', r, r', hu => by
    simp only [Rep] at h
    subst h
    obtain ⟨t1, rfl⟩ := r
    obtain ⟨a2, xs2, rfl, _, _, its2, _, p2⟩ := I.repL h'
    cases r'
    simp only [eqD]
    exact SeqAt.RcAt.int_list _ _ p2 (by omega)
  | .str la, .non, v, w, u, t, h, h', r, r', hu => by
    simp only [Rep] at h
    subst h
    obtain ⟨t1, rfl⟩ := r
    simp only [Rep] at h'
    subst h'
    cases r'
    simp only [eqD]
    exact SeqAt.RcAt.str_none _ _
  | .str la, .bl _, v, w, u, t, h, h', r, r', hu => by
    simp only [Rep] at h
    subst h
    obtain ⟨t1, rfl⟩ := r
    simp only [Rep] at h'
    subst h'
    cases r'
    simp only [eqD]
    exact SeqAt.RcAt.str_bool _ _ _
  | .str la, .int _, v, w, u, t, h, h', r, r', hu => by
    simp only [Rep] at h
    subst h
    obtain ⟨t1, rfl⟩ := r
    simp only [Rep] at h'
    subst h'
    obtain ⟨t2, rfl⟩ := r'
    simp only [eqD]
    exact SeqAt.RcAt.str_int _ _ _ _
  | .str la, .str lb, v, w, u, t, h, h', r, r', hu => by
    simp only [Rep] at h
    subst h
    obtain ⟨t1, rfl⟩ := r
    simp only [Rep] at h'
    subst h'
    obtain ⟨t2, rfl⟩ := r'
    have z := SeqAt.RcAt.str_str (A := A) (s := s) ⟨la.toArray⟩ t1 ⟨lb.toArray⟩ t2
    rw [str_beqS] at z
    simpa only [eqD] using z
  | .str la, .tup es, v, w, u, t, h, h', r, r', hu => by
    simp only [Rep] at h
    subst h
    obtain ⟨t1, rfl⟩ := r
    obtain ⟨a2, xs2, rfl, _, _, its2, _, p2⟩ := I.repT h'
    cases r'
    simp only [eqD]
    exact SeqAt.RcAt.str_tuple _ _ p2 (by omega)
  | .str la, .lst es, v, w, u, t, h, h', r, r', hu => by
    simp only [Rep] at h
    subst h
    obtain ⟨t1, rfl⟩ := r
    obtain ⟨a2, xs2, rfl, _, _, its2, _, p2⟩ := I.repL h'
    cases r'
    simp only [eqD]
    exact SeqAt.RcAt.str_list _ _ p2 (by omega)
  | .tup ds, .non, v, w, u, t, h, h', r, r', hu => by
    obtain ⟨a1, xs1, rfl, _, _, its1, _, p1⟩ := I.repT h
    cases r
    simp only [Rep] at h'
    subst h'
    cases r'
    simp only [eqD]
    exact SeqAt.RcAt.tuple_none  p1 (by omega)
  | .tup ds, .bl _, v, w, u, t, h, h', r, r', hu => by
    obtain ⟨a1, xs1, rfl, _, _, its1, _, p1⟩ := I.repT h
    cases r
    simp only [Rep] at h'
    subst h'
    cases r'
    simp only [eqD]
    exact SeqAt.RcAt.tuple_bool _ p1 (by omega)
  | .tup ds, .int _, v, w, u, t, h, h', r, r', hu => by
    obtain ⟨a1, xs1, rfl, _, _, its1, _, p1⟩ := I.repT h
    cases r
    simp only [Rep] at h'
    subst h'
    obtain ⟨t2, rfl⟩ := r'
    simp only [eqD]
    exact SeqAt.RcAt.tuple_int _ _ p1 (by omega)
  | .tup ds, .str lb, v, w, u, t, h, h', r, r', hu => by
    obtain ⟨a1, xs1, rfl, _, _, its1, _, p1⟩ := I.repT h
    cases r
    simp only [Rep] at h'
    subst h'
    obtain ⟨t2, rfl⟩ := r'
    simp only [eqD]
    exact SeqAt.RcAt.tuple_str _ _ p1 (by omega)
  | .tup ds, .lst es, v, w, u, t, h, h', r, r', hu => by
    obtain ⟨a1, xs1, rfl, _, _, its1, _, p1⟩ := I.repT h
    cases r
    obtain ⟨a2, xs2, rfl, _, _, its2, _, p2⟩ := I.repL h'
    cases r'
    simp only [eqD]
    exact SeqAt.RcAt.tuple_list  p1 p2 (by omega)
  | .lst ds, .non, v, w, u, t, h, h', r, r', hu => by
    obtain ⟨a1, xs1, rfl, _, _, its1, _, p1⟩ := I.repL h
    cases r
    simp only [Rep] at h'
    subst h'
    cases r'
    simp only [eqD]
    exact SeqAt.RcAt.list_none  p1 (by omega)
  | .lst ds, .bl _, v, w, u, t, h, h', r, r', hu => by
    obtain ⟨a1, xs1, rfl, _, _, its1, _, p1⟩ := I.repL h
    cases r
    simp only [Rep] at h'
    subst h'
    cases r'
    simp only [eqD]
    exact SeqAt.RcAt.list_bool _ p1 (by omega)
  | .lst ds, .int _, v, w, u, t, h, h', r, r', hu => by
    obtain ⟨a1, xs1, rfl, _, _, its1, _, p1⟩ := I.repL h
    cases r
    simp only [Rep] at h'
    subst h'
    obtain ⟨t2, rfl⟩ := r'
    simp only [eqD]
    exact SeqAt.RcAt.list_int _ _ p1 (by omega)
  | .lst ds, .str lb, v, w, u, t, h, h', r, r', hu => by
    obtain ⟨a1, xs1, rfl, _, _, its1, _, p1⟩ := I.repL h
    cases r
    simp only [Rep] at h'
    subst h'
    obtain ⟨t2, rfl⟩ := r'
    simp only [eqD]
    exact SeqAt.RcAt.list_str _ _ p1 (by omega)
  | .lst ds, .tup es, v, w, u, t, h, h', r, r', hu => by
    obtain ⟨a1, xs1, rfl, _, _, its1, _, p1⟩ := I.repL h
    cases r
    obtain ⟨a2, xs2, rfl, _, _, its2, _, p2⟩ := I.repT h'
    cases r'
    simp only [eqD]
    exact SeqAt.RcAt.list_tuple  p1 p2 (by omega)
  | .lst ds, .lst es, v, w, u, t, h, h', r, r', hu => by
    obtain ⟨a1, xs1, rfl, s1, q1, its1, v1, p1⟩ := I.repL h
    obtain ⟨a2, xs2, rfl, s2, q2, its2, v2, p2⟩ := I.repL h'
    cases r
    cases r'
    exact lists_rc A I q1 q2 v1 v2 p1 p2 (by omega) fun d hd e v w u t hv hw rv rw' => eqAt_rep (A := A.in1) I d e v w u t hv hw rv rw' (by
        have := dep_mem hd
        simp only [dep] at hu
        show A.units + 1 + dep d < cLine
        omega)
  | .tup ds, .tup es, v, w, u, t, h, h', r, r', hu => by
    obtain ⟨a1, xs1, rfl, s1, q1, its1, v1, p1⟩ := I.repT h
    obtain ⟨a2, xs2, rfl, s2, q2, its2, v2, p2⟩ := I.repT h'
    cases r
    cases r'
    exact tuples_rc A I q1 q2 v1 v2 p1 p2 (by omega) fun d hd e v w u t hv hw rv rw' => eqAt_rep (A := A.in1) I d e v w u t hv hw rv rw' (by
        have := dep_mem hd
        simp only [dep] at hu
        show A.units + 1 + dep d < cLine
        omega)
end
section
variable {X : Cx}
def rEqD (K : PySem.W.Frag) : R2 := fun x y H Q => ∃ d e, Rep K H d x ∧ Rep K H e y ∧ dep d ≤ 50 ∧ Q (.bl (eqD d e)) H
theorem op_eqD (hu : X.A.units + 50 < cLine) : OpR X (compareOp .Eq) (rEqD X.K) := by
  intro pins s σ H x y v u Q I rx ry ⟨d, e, hd, he, hp, q⟩
  exact rcAt_rep I d e x y v u hd he rx ry (by omega) X.prog X.w X.xe _ ⟨.bl _, H, I, rfl, q⟩
theorem hu50 {A : Around} {k : Nat} (hr : Room k A) : A.units + 50 < cLine := by have := hr.un; omega
end
end L2

set_option Elab.async false
set_option linter.all false
set_option maxRecDepth 100000
set_option maxHeartbeats 4000000
/-! What the laws' own helpers reckon, as plain functions. -/
namespace L2
open PySem PySem.Spec PyProof.Rows

def cellZ (ns : List Int) (k : Int) : Int :=
  if k < ns.length then ns.getD k.toNat 0 else if ns = [] then 0 else ns.getD (k % (ns.length : Int)).toNat 0 * 31 + k
def drawnZ (ns : List Int) (k : Int) : Int := (cellZ ns k + 6151 * (k + 1)) * 40692 % 2147483399
def pickZ (ns : List Int) (k many : Int) : Int := (drawnZ ns k * drawnZ ns k + drawnZ ns k / 31) % 2147483629 % many
theorem drawnZ_lo (ns : List Int) (k : Int) : 0 ≤ drawnZ ns k := Int.emod_nonneg _ (by decide)
theorem drawnZ_hi (ns : List Int) (k : Int) : drawnZ ns k < 2147483399 := Int.emod_lt_of_pos _ (by decide)
theorem pickZ_lo (ns : List Int) (k : Int) {many : Int} (h : 0 < many) : 0 ≤ pickZ ns k many := Int.emod_nonneg _ (by omega)
theorem pickZ_hi (ns : List Int) (k : Int) {many : Int} (h : 0 < many) : pickZ ns k many < many := Int.emod_lt_of_pos _ h
/-- the sign that a text has at a drawn place -/
def signZ (ns : List Int) (k : Int) (sg : List Nat) : Nat := sg.getD (pickZ ns k sg.length).toNat 0
theorem signZ_mem (ns : List Int) (k : Int) {sg : List Nat} (h : sg ≠ []) : signZ ns k sg ∈ sg := by
  have hp : 0 < (sg.length : Int) := by
    have := List.length_pos_iff.mpr h
    omega
  have h1 := pickZ_lo ns k hp
  have h2 := pickZ_hi ns k hp
  unfold signZ
  have hlt : (pickZ ns k sg.length).toNat < sg.length := by omega
  rw [List.getD_eq_getElem?_getD, List.getElem?_eq_getElem hlt, Option.getD_some]
  exact List.getElem_mem hlt
theorem signZ_at (ns : List Int) (k : Int) {sg : List Nat} (h : sg ≠ []) : atI sg (pickZ ns k sg.length) = some (signZ ns k sg) := by
  have hp : 0 < (sg.length : Int) := by
    have := List.length_pos_iff.mpr h
    omega
  have h1 := pickZ_lo ns k hp
  have h2 := pickZ_hi ns k hp
  have hlt : (pickZ ns k sg.length).toNat < sg.length := by omega
  have e : pickZ ns k sg.length = ((pickZ ns k sg.length).toNat : Int) := by omega
  rw [e]
  refine atI_nat ?_
  unfold signZ
  rw [List.getD_eq_getElem?_getD, List.getElem?_eq_getElem hlt, Option.getD_some]
/-- a drawn wave, by how many ticks behind the first one -/
def waveN (ns : List Int) (a : Int) (sg : List Nat) : Nat → List Nat
  | 0 => [signZ ns a sg]
  | k + 1 => if pickZ ns (a + 2 * ((k : Int) + 1)) 2 = 0 then waveN ns a sg k ++ [(waveN ns a sg k).getLastD 0] else waveN ns a sg k ++ [signZ ns (a + 2 * ((k : Int) + 1) + 1) sg]
def waveL (ns : List Int) (a many : Int) (sg : List Nat) : List Nat := waveN ns a sg (many - 1).toNat
theorem waveN_length (ns : List Int) (a : Int) (sg : List Nat) : ∀ k, (waveN ns a sg k).length = k + 1
  | 0 => rfl
  | k + 1 => by
    unfold waveN
    split <;> simp [waveN_length ns a sg k]
theorem waveN_mem (ns : List Int) (a : Int) {sg : List Nat} (h : sg ≠ []) : ∀ k, ∀ c ∈ waveN ns a sg k, c ∈ sg
  | 0 => by
    intro c hc
    simp [waveN] at hc
    rw [hc]
    exact signZ_mem ns a h
  | k + 1 => by
    intro c hc
    have ih := waveN_mem ns a h k
    unfold waveN at hc
    split at hc
    · rcases List.mem_append.mp hc with hc | hc
      · exact ih c hc
      · simp only [List.mem_singleton] at hc
        have hne : waveN ns a sg k ≠ [] := by
          intro z
          have := waveN_length ns a sg k
          rw [z] at this
          simp at this
        rw [hc, List.getLastD_eq_getLast?, List.getLast?_eq_some_getLast hne, Option.getD_some]
        exact ih _ (List.getLast_mem hne)
    · rcases List.mem_append.mp hc with hc | hc
      · exact ih c hc
      · simp only [List.mem_singleton] at hc
        rw [hc]
        exact signZ_mem ns _ h
theorem waveL_length (ns : List Int) (a : Int) {many : Int} (sg : List Nat) (h : 1 ≤ many) : ((waveL ns a many sg).length : Int) = many := by
  unfold waveL
  rw [waveN_length]
  omega
theorem waveL_mem (ns : List Int) (a many : Int) {sg : List Nat} (h : sg ≠ []) : ∀ c ∈ waveL ns a many sg, c ∈ sg := waveN_mem ns a h _
theorem last_at {l : List Nat} (h : l ≠ []) : atI l (-1) = some (l.getLastD 0) := by
  obtain ⟨r, x, rfl⟩ : ∃ r x, l = r ++ [x] := ⟨l.dropLast, l.getLast h, (List.dropLast_concat_getLast h).symm⟩
  rw [atI_last]
  simp
/-! ### the promises of the helpers -/
section
variable (K : PySem.W.Frag)
/-- the script: a list of ints that stays -/
abbrev Scr (H : Hp) (a : Addr) (ns : List Int) : Prop := SqL K H a (ns.map V.int) ∧ ns.length ≤ 63
def spCell : Sp := fun vs H Q _ => ∃ (a : Addr) (ns : List Int) (k : Int), vs = [.ref a, .int k] ∧ Scr K H a ns ∧ 0 ≤ k ∧ ∀ H', Same H H' → Q (.int (cellZ ns k)) H'
def spPick : Sp := fun vs H Q _ => ∃ (a : Addr) (ns : List Int) (k many : Int), vs = [.ref a, .int k, .int many] ∧ Scr K H a ns ∧ 0 ≤ k ∧ 0 < many ∧ ∀ H', Same H H' → Q (.int (pickZ ns k many)) H'
def spWave : Sp := fun vs H Q _ => ∃ (a : Addr) (ns : List Int) (k many : Int) (sg : List Nat), vs = [.ref a, .int k, .int many, S sg] ∧ Scr K H a ns ∧ 0 ≤ k ∧ 1 ≤ many ∧ many ≤ 1000 ∧ sg ≠ [] ∧ sg.length ≤ 1000 ∧ ∀ H', Same H H' → Q (S (waveL ns k many sg)) H'
end
theorem Same.upd {H : Hp} {a : Addr} {o : HO} (h : H a = none) : Same H (L2.upd H a o) := fun b u e => by rw [upd_ne (ne_of_none e h)]; exact e
theorem Scr.mono {K : PySem.W.Frag} {H H' : Hp} {a : Addr} {ns : List Int} (h : Scr K H a ns) (e : Same H H') : Scr K H' a ns := ⟨e.seq h.1, h.2⟩
theorem big (n : Nat) (h : n ≤ 10000 := by omega) : n ≤ sizeLine := Nat.le_trans h (by decide)
theorem reps_ints {K : PySem.W.Frag} {H : Hp} : ∀ ns : List Int, Reps K H (ns.map Dt.int) (ns.map V.int)
  | [] => .nil
  | n :: ns => .cons rep_int (reps_ints ns)
theorem rep_script {K : PySem.W.Frag} {H : Hp} {a : Addr} {ns : List Int} (h : SqL K H a (ns.map V.int)) : Rep K H (.lst (ns.map Dt.int)) (.ref a) := by
  simp only [Rep]
  exact ⟨a, _, rfl, h, reps_ints ns⟩
theorem eqD_nil (ns : List Int) : eqD (.lst (ns.map Dt.int)) (.lst []) = decide (ns = []) := by
  cases ns <;> simp [eqD, eqDs]
theorem atI_ints {ns : List Int} {k : Int} (h0 : 0 ≤ k) (h1 : k < ns.length) : atI (ns.map V.int) k = some (.int (ns.getD k.toNat 0)) := by
  obtain ⟨n, rfl⟩ : ∃ n : Nat, k = n := ⟨k.toNat, by omega⟩
  refine atI_nat ?_
  have hlt : n < ns.length := by omega
  simp [hlt]
theorem cell_lt {ns : List Int} {k : Int} (h0 : 0 ≤ k) (h1 : k < ns.length) : atI (ns.map V.int) k = some (.int (cellZ ns k)) := by
  rw [atI_ints h0 h1]
  unfold cellZ
  rw [if_pos h1]
theorem deps_ints : ∀ ns : List Int, deps (ns.map Dt.int) = 0
  | [] => rfl
  | n :: ns => by simp only [List.map_cons, deps, dep, deps_ints ns]; omega
end L2

set_option Elab.async false
set_option linter.all false
set_option maxRecDepth 100000
set_option maxHeartbeats 4000000
/-! Comprehensions by what each turn gives. -/
namespace L2
open PySem PySem.Spec PyProof.Rows

/-- the heap without what stands at D -/
def del (H : Hp) (D : Addr) : Hp := fun b => if b = D then none else H b
theorem del_ne {H : Hp} {D b : Addr} (h : b ≠ D) : del H D b = H b := by unfold del; rw [if_neg h]
theorem del_upd {H : Hp} {D : Addr} {o : HO} : del (upd H D o) D = del H D := by
  funext b
  unfold del upd
  split <;> rfl
theorem del_same {H : Hp} {D : Addr} : Same (del H D) H := fun b o e => by
  unfold del at e
  split at e
  · cases e
  · exact e
theorem Same.del {H H' : Hp} (h : Same H H') (D : Addr) : Same (L2.del H D) (L2.del H' D) := fun b o e => by
  unfold L2.del at e ⊢
  split at e
  · cases e
  · rename_i hb
    rw [if_neg hb]
    exact h b o e
theorem Paired.app {α β : Type} {F : α → β → Prop} : ∀ {a c : List α} {b d : List β}, Paired F a b → Paired F c d → Paired F (a ++ c) (b ++ d)
  | _, _, _, _, .nil, t => t
  | _, _, _, _, .cons r s, t => .cons r (Paired.app s t)
section
variable {α : Type} {J : It} {k : Nat} {fr : List Nat} {g : TG} {tc : TT} {te : TE} {σ : St} {H1 : Hp} {Q : VK}
/-- a comprehension, by what each turn gives (out i: none where the test says no) -/
theorem rdComp_by (Rel : Hp → V → α → Prop) (mono : ∀ H H' v a, Same H H' → Rel H v a → Rel H' v a) (n : Nat) (out : Nat → Option α) (fre : St) (hfre : fre = fr.map fun j => (σ[j]?).getD none) (hsz : n ≤ sizeLine)
    (hgo : ∀ i H, i < n → Same H1 H → J.go i H) (hstop : ∀ H, Same H1 H → J.stop n H) (hyl : ∀ i H x H', J.yld i H x H' → Same H H')
    (step : ∀ D i own ys H2 x H3 (Kt : St → V → Hp → Prop) (Kf : St → Hp → Prop), i < n → own.length = k → Same H1 H2 → H2 D = some (.lst ys) → H1 D = none → J.yld i H2 x H3 → Same H2 H3 →
      (∀ own' v H6 a, own'.length = k → Same H2 H6 → out i = some a → Rel (del H6 D) v a → Kt (own' ++ fre) v H6) →
      (∀ own' H5, own'.length = k → Same H2 H5 → out i = none → Kf (own' ++ fre) H5) →
      g x (own ++ fre) H3 fun σ2 H4 => tc σ2 H4 fun b H5 => if b = true then te σ2 H5 (Kt σ2) else Kf σ2 H5)
    (fin : ∀ D ys H', H' D = some (.lst ys) → H1 D = none → Same H1 H' → Paired (Rel (del H' D)) ys ((List.range n).filterMap out) → Q (.ref D) H') : rdComp k fr g tc te σ J H1 Q := by
  intro D hD
  refine ⟨fun i m ys σ' H' => i ≤ n ∧ m = n - i ∧ ys.length ≤ i ∧ H' D = some (.lst ys) ∧ Same H1 H' ∧ (∃ own, own.length = k ∧ σ' = own ++ fre) ∧ Paired (Rel (del H' D)) ys ((List.range i).filterMap out),
    ⟨n, Nat.zero_le _, rfl, Nat.zero_le _, upd_same, .upd hD, ⟨List.replicate k none, by simp, by rw [hfre]; rfl⟩, .nil⟩, ?_⟩
  rintro i m ys σ' H' ⟨hi, rfl, hl, hD', sm, ⟨own, ho, rfl⟩, pr⟩
  refine ⟨hD', ?_⟩
  by_cases hlt : i < n
  · refine .inr ⟨hgo i H' hlt sm, n - (i + 1), by omega, fun x H2 y => ?_⟩
    have sy := hyl i H' x H2 y
    refine step D i own ys H' x H2 (fun σ2 v H5 => H5 D = some (.lst ys) ∧ ys.length < sizeLine ∧ (i + 1 ≤ n ∧ n - (i + 1) = n - (i + 1) ∧ (ys ++ [v]).length ≤ i + 1 ∧ (upd H5 D (.lst (ys ++ [v]))) D = some (.lst (ys ++ [v])) ∧ Same H1 (upd H5 D (.lst (ys ++ [v]))) ∧ (∃ own, own.length = k ∧ σ2 = own ++ fre) ∧ Paired (Rel (del (upd H5 D (.lst (ys ++ [v]))) D)) (ys ++ [v]) ((List.range (i + 1)).filterMap out)))
      (fun σ2 H4 => i + 1 ≤ n ∧ n - (i + 1) = n - (i + 1) ∧ ys.length ≤ i + 1 ∧ H4 D = some (.lst ys) ∧ Same H1 H4 ∧ (∃ own, own.length = k ∧ σ2 = own ++ fre) ∧ Paired (Rel (del H4 D)) ys ((List.range (i + 1)).filterMap out)) hlt ho sm hD' hD y sy ?_ ?_
    · intro own' v H6 a ho' s6 eo hr
      refine ⟨s6 D _ hD', by omega, hlt, rfl, by simp; omega, upd_same, fun b o e => ?_, ⟨own', ho', rfl⟩, ?_⟩
      · rw [upd_ne (ne_of_none e hD)]
        exact s6 b o (sm b o e)
      · rw [del_upd, List.range_succ, List.filterMap_append]
        refine Paired.app (Paired.mapP pr fun v a r => mono _ _ v a (s6.del D) r) ?_
        simp only [List.filterMap_cons, List.filterMap_nil, eo]
        exact .cons hr .nil
    · intro own' H5 ho' s5 eo
      refine ⟨hlt, rfl, by omega, s5 D _ hD', sm.trans s5, ⟨own', ho', rfl⟩, ?_⟩
      rw [List.range_succ, List.filterMap_append]
      simp only [List.filterMap_cons, List.filterMap_nil, eo, List.append_nil]
      exact Paired.mapP pr fun v a r => mono _ _ v a (s5.del D) r
  · have e : i = n := by omega
    subst e
    exact .inl ⟨hstop H' sm, fin D ys H' hD' hD sm pr⟩
end
theorem paired_reps {K : PySem.W.Frag} {H : Hp} : ∀ {ys : List V} {ds : List Dt}, Paired (fun v d => Rep K H d v) ys ds → Reps K H ds ys
  | _, _, .nil => .nil
  | _, _, .cons r t => .cons r (paired_reps t)
/-- what the values stand for -/
theorem rdComp_rep {K : PySem.W.Frag} {J : It} {k : Nat} {fr : List Nat} {g : TG} {tc : TT} {te : TE} {σ : St} {H1 : Hp} {Q : VK} (n : Nat) (out : Nat → Option Dt) (fre : St) (hfre : fre = fr.map fun j => (σ[j]?).getD none) (hsz : n ≤ sizeLine)
    (hgo : ∀ i H, i < n → Same H1 H → J.go i H) (hstop : ∀ H, Same H1 H → J.stop n H) (hyl : ∀ i H x H', J.yld i H x H' → Same H H')
    (step : ∀ D i own ys H2 x H3 (Kt : St → V → Hp → Prop) (Kf : St → Hp → Prop), i < n → own.length = k → Same H1 H2 → H2 D = some (.lst ys) → H1 D = none → J.yld i H2 x H3 → Same H2 H3 →
      (∀ own' v H6 a, own'.length = k → Same H2 H6 → out i = some a → Rep K (del H6 D) a v → Kt (own' ++ fre) v H6) →
      (∀ own' H5, own'.length = k → Same H2 H5 → out i = none → Kf (own' ++ fre) H5) →
      g x (own ++ fre) H3 fun σ2 H4 => tc σ2 H4 fun b H5 => if b = true then te σ2 H5 (Kt σ2) else Kf σ2 H5)
    (fin : ∀ D H', (∃ ys, H' D = some (.lst ys) ∧ Reps K H' ((List.range n).filterMap out) ys) → Same H1 H' → Q (.ref D) H') : rdComp k fr g tc te σ J H1 Q := by
  refine rdComp_by (fun H v d => Rep K H d v) (fun _ _ _ _ s h => h.mono s) n out fre hfre hsz hgo hstop hyl step fun D ys H' h1 _ s pr => ?_
  exact fin D H' ⟨ys, h1, (paired_reps pr).mono del_same⟩ s
/-! ### the iterators at hand -/
theorem itr_go {lo : Int} {n : Nat} {H1 : Hp} : ∀ i H, i < n → Same H1 H → (Itr lo n).go i H := fun _ _ h _ => h
theorem itr_stop {lo : Int} {n : Nat} {H1 : Hp} : ∀ H, Same H1 H → (Itr lo n).stop n H := fun _ _ => Nat.le_refl _
theorem itr_yl {lo : Int} {n : Nat} : ∀ i H x H', (Itr lo n).yld i H x H' → Same H H' := fun _ _ _ _ h => by rw [h.1]; exact .refl _
theorem filterMap_some {α β : Type} (l : List α) (f : α → β) : l.filterMap (fun x => some (f x)) = l.map f := by
  induction l with
  | nil => rfl
  | cons a r ih => simp [ih]
theorem map_range_get {α β : Type} (l : List α) (f : Option α → β) : (List.range l.length).map (fun i => f l[i]?) = l.map fun x => f (some x) := by
  apply List.ext_getElem
  · simp
  · intro i h1 h2
    have h : i < l.length := by simpa using h1
    simp [h]
end L2
namespace L2
open PySem PySem.Spec PyProof.Rows
def isStar : Expr → Bool
  | .Starred .. => true
  | _ => false
theorem starEach_cons {e : Expr} {es : List Expr} {env : Env} (h : isStar e = false) : starEach (e :: es) env = (false, eval e env) :: starEach es env := by
  cases e <;> first | rfl | exact absurd h (by simp [isStar])
end L2
namespace L2
open PySem PySem.Spec PyProof.Rows
theorem pax (X : Cx) (e : Expr) (es : List Expr) (te : TE) (t : TA) (h : isStar e = false) (ha : PE X e te) (hr : PA X es t) : PA X (e :: es) (tCons te t) := pa_cons ha hr (starEach_cons h)
end L2

set_option Elab.async false
set_option linter.all false
set_option maxRecDepth 100000
set_option maxHeartbeats 4000000
/-! Refusals: raised, carried, caught, looked at. -/
namespace L2
open PySem PySem.Spec PyProof.Rows PySem.W

section
variable {prog : Program} {w : World} {A : Around} {E : Value → Shared → Prop} {s : Shared} {K : PySem.W.Frag} {x C : Addr} {ox : Obj}
/-- what the written part says of an exception's class -/
structure ExcK (K : PySem.W.Frag) (C : Addr) : Prop where
  cls : (clsIn K C).isSome = true
  ga : findIn K (.ref C) "__getattribute__" = some (some (.builtin "BaseException.__getattribute__"))
  na : findIn K (.ref C) "__getattr__" = some none
  ca : findIn K (.ref C) "__class__" = some (some (.builtin "object.__class__"))
  get : specialIn K (.builtin "object.__class__") "__get__" = some (some (.builtin "getset_descriptor.__get__"))
  tk : takesIn K (.builtin "object.__class__") = some true
  ob : mroIn K C (.type "object") = some true
  be : mroIn K C (.type "BaseException") = some true
/-- an exception's object, as far as it is told -/
def ExcAt (h : Heap) (x C : Addr) : Prop := ∃ ox, h.get? x = some ox ∧ ox.cls = .ref C
theorem ExcAt.type {M : Model} {h : Heap} (I : ExcAt h x C) : Looks M h (typeOf (.ref x)) (.ref C) := by
  obtain ⟨ox, e, c⟩ := I
  exact c ▸ (Looks.ld e).andThen .now
theorem exc_find {M : Model} {h : Heap} (Z : ExcK K C) (X : K.In h) : Looks M h (Builtin.ObjectAttr.find (.ref x) (.ref C) "__class__") (.bind (.builtin "getset_descriptor.__get__") (.builtin "object.__class__")) := by
  have L1 := looks_findIn (M := M) X Z.ca
  have L2 : Looks M h (Builtin.ObjectAttr.getOf (some (.builtin "object.__class__"))) (some (.builtin "getset_descriptor.__get__")) := looks_specialIn X Z.get
  unfold Builtin.ObjectAttr.find
  refine L1.andThen (L2.andThen ?_)
  have L3 := looks_takesIn (M := M) X Z.tk
  exact (show Looks M h (Builtin.ObjectAttr.dataDescriptor? (some (.builtin "object.__class__")) (some (.builtin "getset_descriptor.__get__"))) (some ((.builtin "getset_descriptor.__get__"), (.builtin "object.__class__"))) from L3.andThen .now).andThen (Looks.tag .now)
theorem exc_get {R : Result → Shared → Prop} {tp : Value} (Z : ExcK K C) (X : K.In s.heap) (I : ExcAt s.heap x C)
    (h : R (.ok (.ret (.ref C))) s) : codeAny (model prog w) A (.call (.builtin "getset_descriptor.__get__") ⟨[.builtin "object.__class__", .ref x, tp], []⟩) R s := by
  obtain ⟨hh, g, dr, t, os⟩ := s
  have L0 := I.type (M := model prog w)
  have L1 := looks_mroIn (M := model prog w) X Z.ob
  refine codeAny_call_builtin KF.slot_gs.plain KF.entry_gs (KF.slot_gs.check _ _ _ _ _ _ _ _ KF.type_class (KF.args_gs _ _ _) ?_)
  unfold Builtin.«getset_descriptor.__get__» Builtin.Getset_descriptor.descrGet
  rw [dga_obj]
  refine wpAny_bind (wpAny_pure ?_)
  unfold Builtin.Getset_descriptor.descrGetter Builtin.Getset_descriptor.descrCheckInstance Builtin.Getset_descriptor.descrNameAndClass isInstance
  simp only [KF.owner_class]
  repeat lk
  refine ⟨Code.quiet_builtin _ (by decide +kernel), codeAny_builtin KF.entry_class ?_⟩
  unfold Builtin.«object.__class__» shownTypeOf
  repeat lk
  exact h
theorem exc_check {nameV : Value} {M : Model} {Q : Unit → Shared → Prop} (Z : ExcK K C) (X : K.In s.heap) (I : ExcAt s.heap x C) (hq : Q () s) : wpAny M A (checkBuiltinCall "BaseException.__getattribute__" ⟨[.ref x, nameV], []⟩) Q E s := by
  have hk : builtinKind "BaseException.__getattribute__" = some .slot := by decide +kernel
  have hsplit : splitId "BaseException.__getattribute__" = some ("BaseException", "__getattribute__") := by decide +kernel
  have L0 := I.type (M := M)
  have L1 := looks_mroIn (M := M) X Z.be
  have ha := F.args_bexc_ga (.ref x) nameV
  simp only [checkBuiltinCall, hk, hsplit]
  refine wpAny_bind ?_
  unfold isInstance
  refine wpAny_bind (L0.at (L1.at ?_))
  repeat (first | wp_step)
  exact hq
theorem exc_class {Q : Option Value → Shared → Prop} (Z : ExcK K C) (X : K.In s.heap) (I : ExcAt s.heap x C) (h : Q (some (.ref C)) { s with toks := s.toks + 1 }) : wpAny (model prog w) A (getAttr? (.ref x) "__class__") Q E s := by
  have L0 := I.type (M := model prog w)
  have L1 := looks_findIn (M := model prog w) X Z.ga
  have L2 := looks_findIn (M := model prog w) X Z.na
  have L3 := exc_find (M := model prog w) (x := x) Z X
  unfold getAttr? getAttrBy? getAttrBy
  refine wpAny_bind (wpAny_mkText (wpAny_bind (wpAny_attempt (wpAny_holding (wpAny_bind (L0.at (wpAny_bind (L1.at ?_))))))))
  have hx2 : (Value.builtin "BaseException.__getattribute__" == Value.builtin "object.__getattribute__") = false := by decide +kernel
  have hx1 : (onTheHeap (Value.ref C) && Value.builtin "BaseException.__getattribute__" == Value.builtin "object.__getattribute__") = false := by rw [hx2]; rfl
  show wpAny _ _ (if (onTheHeap (Value.ref C) && Value.builtin "BaseException.__getattribute__" == Value.builtin "object.__getattribute__") = true then _ else _) _ _ _
  rw [hx1, if_neg (by decide)]
  unfold getAttrByItsOwn hookBefore
  rw [show onTheHeap (Value.ref C) = true from rfl, if_pos rfl]
  refine wpAny_bind (L2.at ?_)
  refine wpAny_bind (wpAny_attempt (wpAny_holding ?_))
  unfold callGetattribute
  rw [if_neg (by decide)]
  unfold boundAndCalled
  refine wpAny_bind (wpAny_of_eq (F.attr_ValueError.ga.bind (.ref x)) ?_)
  refine wpAny_call (codeAny_call_builtin F.attr_ValueError.ga.plain F.entry_bexc_ga (exc_check (s := { s with toks := s.toks + 1 }) Z X I ?_))
  unfold Builtin.«object.__getattribute__»
  refine wpAny_bind (wpAny_pure ?_)
  refine wpAny_bind (wpAny_pure (wpAny_bind (L0.at (wpAny_bind (L3.at ?_)))))
  show wpAny _ _ (Builtin.ObjectAttr.bindTo (.builtin "getset_descriptor.__get__") (.builtin "object.__class__") (.ref x) (.ref C)) _ _ _
  unfold Builtin.ObjectAttr.bindTo
  show wpAny _ _ (holding [.builtin "object.__class__"] (call (.builtin "getset_descriptor.__get__") [.builtin "object.__class__", .ref x, .ref C]) >>= fun v => ret v) _ _ _
  refine wpAny_bind (wpAny_holding (wpAny_call (exc_get (s := { s with toks := s.toks + 1 }) Z X I ?_)))
  exact wpAny_pure (handed_on rfl (wpAny_pure h))
/-- an exception's class, as isinstance asks for it -/
theorem kitx_exc (Z : ExcK K C) : KitX K (.ref x) (.ref C) (fun h => ExcAt h x C) where
  ty := fun _ _ _ I => I.type
  it := fun _ _ X _ => by
    obtain ⟨cd, hc⟩ := Option.isSome_iff_exists.mp Z.cls
    unfold clsIn at hc
    split at hc
    · rename_i c' d' cd' sl' ho
      intro A' Q' E' s' k q
      unfold isType loadHead
      exact wpAny_bind (wpAny_loadPart (k _ _ (X _ _ ho)) (wpAny_pure q))
    · cases hc
  ne := fun h tp dd its n sl X htp => by
    obtain ⟨cd, hc⟩ := Option.isSome_iff_exists.mp Z.cls
    refine Bool.eq_false_iff.mpr fun q => ?_
    have e : C = tp := Value.ref.inj (beq_iff_eq.mp q)
    subst e
    unfold clsIn at hc
    split at hc
    · rename_i c' d' cd' sl' ho
      have z := (X _ _ ho).symm.trans htp
      cases z
    · cases hc
  ca := fun X I k => exc_class Z X I k
end
/-- a caught exception of the class at C, as it is tracked -/
def excO (C a : Addr) : HO := .ext fun h => ExcAt h a C
section
variable {X : Cx}
/-- isinstance(e, D) of a caught exception: as the written part says -/
theorem call_isExc : CallR X (.builtin "isinstance") (fun xs H Q => ∃ a C D b, xs = [.ref a, D] ∧ H a = some (excO C a) ∧ ExcK X.K C ∧ (∀ u, RelV D u → kitOne X.K (.ref C) u = some b) ∧ Q (.bl b) H) := by
  intro pins s σ H xs us Q I r ⟨a, C, D, b, e, hH, Z, hb, q⟩
  subst e
  obtain ⟨u, t, rfl, ru, rt⟩ := r.two
  cases ru
  have hI : ExcAt s.heap a C := (I.hok a _ hH).1
  exact kia_one (kitx_exc (x := a) Z) I.kIn hI (hb t rt) (by intro z; cases z) fun tk => ⟨.bl b, H, I.tok tk, rfl, q⟩
end
end L2

set_option Elab.async false
set_option linter.all false
set_option maxRecDepth 100000
set_option maxHeartbeats 4000000
/-! How a refusal leaves a def, and how it is caught. -/
namespace L2
open PySem PySem.Spec PyProof.Rows PySem.W

theorem ObjOk.there {P : Program} {w : World} {H : Hp} {h : Heap} {a : Addr} {o : HO} (x : ObjOk P w H h a o) : ∃ ob, h.get? a = some ob := by
  cases o with
  | lst xs => obtain ⟨_, _, _, _, e⟩ := x; exact ⟨_, e⟩
  | tup xs => obtain ⟨_, _, _, ob, e, _⟩ := x; exact ⟨_, e⟩
  | dK kvs => obtain ⟨_, _, _, _, o, _, _, e, _⟩ := x; exact ⟨_, e⟩
  | dT kvs => obtain ⟨_, _, _, _, o, _, _, e, _⟩ := x; exact ⟨_, e⟩
  | set S n => obtain ⟨o, _, _, _, e, _⟩ := x; exact ⟨_, e⟩
  | ins C dx fs => obtain ⟨_, _, _, e, _⟩ := x; exact ⟨_, e⟩
  | own y => exact x
  | xd fs => obtain ⟨_, ⟨_, _, _, e, _⟩, _⟩ := x; exact ⟨_, e⟩
  | rng lo hi => obtain ⟨_, _, _, e⟩ := x; exact ⟨_, e⟩
  | frz ob u => obtain ⟨e, _⟩ := x; exact ⟨_, e⟩
  | tbl ps => exact ⟨_, (show h.get? a = some _ from x)⟩
  | met f y => exact ⟨_, (show h.get? a = some _ from x)⟩
  | ext φ => exact x.2.1
/-- the callee's refusal, behind it: B is all but the frames, the exception and its records -/
def CX1 (P : Program) (w : World) : CXT := fun outer H s E e s' =>
  ∃ (ea C : Addr) (H' : Hp) (B : Heap) (a0 : Value), e = .ref ea ∧ s'.os = s.os ∧ AllBare s'.gens ∧ Heap.FlyingW B outer ea (.ref C) a0 s'.heap ∧ HOk P w H' B ∧ Un (frs outer) [] H H' s.heap s'.heap ∧
    (∀ b o, s.heap.get? b = some o → H b = none → b ∉ frs outer → B.get? b = some o) ∧ (∀ b o, s.heap.get? b = some o → b ∉ frs outer → ∃ o', B.get? b = some o') ∧ H' ea = none ∧ E (.ref C) none H'

/-- a body whose refusals go as E says -/
structure Rz (X : Cx) (E : XK) : Prop where
  made : ∀ (pins : List (Addr × Obj)) (σ : St) (H : Hp) (s : Shared) (h' : Heap) (e C : Addr) (vs : List Value), Inv X pins σ H s → Heap.MadeExcOf s.heap h' e (.ref C) vs → E (.ref C) none H → X.xe (.ref e) { s with heap := h' }
  pass : Passes (CX1 X.prog X.w) X E
section
variable {P : Program} {w : World} {K : PySem.W.Frag} {mg : Str → Option Value} {base : Heap} {N : List Str} {qual : Str} {scope : Scope} {f : Addr} {cd : Value} {A : Around} {outer : List Env} {s₀ : Shared} {H₀ : Hp} {E : XK}
theorem rz_of : Rz (cxOf (CX1 P w) P w K mg base N qual scope f cd A outer s₀ H₀ E) E where
  made := by
    intro pins σ H s h' e C vs I hx hE
    have hfr := I.ok.frames
    have hF := I.stack
    have hin : ∀ env ∈ (cxOf (CX1 P w) P w K mg base N qual scope f cd A outer s₀ H₀ E).stack, ∀ b, env.frame = some b → b ∈ frs (cxOf (CX1 P w) P w K mg base N qual scope f cd A outer s₀ H₀ E).stack := fun env he b hb => List.mem_filterMap.mpr ⟨env, he, hb⟩
    refine wpAny_leaves_madeW (base := hideAll s.heap (frs (cxOf (CX1 P w) P w K mg base N qual scope f cd A outer s₀ H₀ E).stack)) (h := s.heap) hfr rfl (fun b o q => of_hideAll _ q) (funFrames_hide hF hin) hx fun h'' t fl _ _ up => ?_
    have inB : ∀ b o, s.heap.get? b = some o → b ∉ frs (cxOf (CX1 P w) P w K mg base N qual scope f cd A outer s₀ H₀ E).stack → (hideAll s.heap (frs (cxOf (CX1 P w) P w K mg base N qual scope f cd A outer s₀ H₀ E).stack)).get? b = some o := fun b o q hb => hideAll_get _ q hb
    have old : ∀ b o, s₀.heap.get? b = some o → b ∉ frs outer → b ∉ frs (cxOf (CX1 P w) P w K mg base N qual scope f cd A outer s₀ H₀ E).stack := fun b o q hb z => by
      rcases List.mem_cons.mp (I.stkSub b z) with e | e
      · exact absurd (Heap.lt_size q) (by have := I.ok.above; rw [e]; exact Nat.not_lt.mpr this)
      · exact hb e
    have noex : ∀ b : Addr, b ∉ (cxOf (CX1 P w) P w K mg base N qual scope f cd A outer s₀ H₀ E).ex := fun b z => nomatch z
    have keepX : ∀ b o, s₀.heap.get? b = some o → H₀ b = none → b ∉ frs outer → (hideAll s.heap (frs (cxOf (CX1 P w) P w K mg base N qual scope f cd A outer s₀ H₀ E).stack)).get? b = some o := fun b o q n hb => inB b o (I.base.keep b o q n hb (noex b)) (old b o q hb)
    have thereX : ∀ b o, s₀.heap.get? b = some o → b ∉ frs outer → ∃ o', (hideAll s.heap (frs (cxOf (CX1 P w) P w K mg base N qual scope f cd A outer s₀ H₀ E).stack)).get? b = some o' := fun b o q hb => by
      obtain ⟨o', q'⟩ := I.base.there b o q (noex b)
      exact ⟨o', inB b o' q' (old b o q hb)⟩
    have slotX : ∀ b o, s₀.heap.get? b = some o → H₀ b = none → b ∈ frs outer → ∃ sl, h''.get? b = some { o with slots := sl } := fun b o q n hb => by
      obtain ⟨sl, q'⟩ := I.base.slot b o q n hb (noex b)
      obtain ⟨_, o2, q2, nf⟩ := I.ok.funs.mem hb
      have q2' : s₀.heap.get? b = some o2 := q2
      rw [q] at q2'
      cases q2'
      obtain ⟨sl', q3⟩ := up b _ (hx.keeps b _ q') (by intro vs z; exact nf vs z)
      exact ⟨sl', q3⟩
    refine ⟨e, C, H, _, _, rfl, I.os, I.bare, fl, fun a o q => ?_, ⟨fun b o q n hb _ => fl.1 b o (keepX b o q n hb), fun b o q n hb _ => slotX b o q n hb, fun b o q n _ => I.base.free b o q n (noex b), fun b o q _ => ?_, I.base.tups, I.base.frzs, I.base.tbls⟩, keepX, thereX, ?_, hE⟩
    · have na : ∀ b u, H b = some u → b ∉ frs (cxOf (CX1 P w) P w K mg base N qual scope f cd A outer s₀ H₀ E).stack := fun b u q z => by
        have := I.stkFree b z
        rw [q] at this
        cases this
      refine (I.hok a o q).stay (fun c u hc r => inB c u r ?_) (fun _ z => z) fun _ _ z => z
      rcases hc with rfl | hc
      · exact na _ _ q
      · exact na _ _ hc
    · by_cases hb : b ∈ frs outer
      · have hn : H₀ b = none := I.ok.frf b hb
        obtain ⟨sl, q'⟩ := slotX b o q hn hb
        exact ⟨_, q'⟩
      · obtain ⟨o', q'⟩ := thereX b o q hb
        exact ⟨o', fl.1 b o' q'⟩
    · cases q : H e with
      | none => rfl
      | some u =>
        obtain ⟨ob, z⟩ := (I.hok e u q).there
        rw [hx.new] at z
        cases z
  pass := by
    intro pins σ H s e s' I hc
    obtain ⟨ea, C, H', B, a0, rfl, hos, hb, fl, hok, un, keepB, thereB, hea, hE⟩ := hc
    have hfr := I.ok.frames
    refine wpAny_leaves_onW hfr rfl fl fun h'' fl' up => ?_
    have old : ∀ b o, s₀.heap.get? b = some o → b ∉ frs outer → b ∉ frs (cxOf (CX1 P w) P w K mg base N qual scope f cd A outer s₀ H₀ E).stack := fun b o q hb z => by
      rcases List.mem_cons.mp (I.stkSub b z) with e | e
      · exact absurd (Heap.lt_size q) (by have := I.ok.above; rw [e]; exact Nat.not_lt.mpr this)
      · exact hb e
    have noex : ∀ b : Addr, b ∉ (cxOf (CX1 P w) P w K mg base N qual scope f cd A outer s₀ H₀ E).ex := fun b z => nomatch z
    have keepX : ∀ b o, s₀.heap.get? b = some o → H₀ b = none → b ∉ frs outer → B.get? b = some o := fun b o q n hb => keepB b o (I.base.keep b o q n hb (noex b)) (I.base.free b o q n (noex b)) (old b o q hb)
    have thereX : ∀ b o, s₀.heap.get? b = some o → b ∉ frs outer → ∃ o', B.get? b = some o' := fun b o q hb => by
      obtain ⟨o', q'⟩ := I.base.there b o q (noex b)
      exact thereB b o' q' (old b o q hb)
    have sub : ∀ b, b ∈ frs outer → b ∈ frs (cxOf (CX1 P w) P w K mg base N qual scope f cd A outer s₀ H₀ E).stack := fun b hb => by
      show b ∈ frs (_ :: outer)
      unfold frs
      rw [List.filterMap_cons]
      split
      · exact hb
      · exact List.mem_cons_of_mem _ hb
    have slotX : ∀ b o, s₀.heap.get? b = some o → H₀ b = none → b ∈ frs outer → ∃ sl, h''.get? b = some { o with slots := sl } := fun b o q n hb => by
      obtain ⟨sl, q'⟩ := I.base.slot b o q n hb (noex b)
      obtain ⟨sl2, q2'⟩ := un.slot b _ q' (I.base.free b o q n (noex b)) (sub b hb) (by simp)
      obtain ⟨_, o2, q2, nf⟩ := I.ok.funs.mem hb
      have q2'' : s₀.heap.get? b = some o2 := q2
      rw [q] at q2''
      cases q2''
      obtain ⟨sl', q3⟩ := up b _ q2' (by intro vs z; exact nf vs z)
      exact ⟨sl', q3⟩
    refine ⟨ea, C, H', B, a0, rfl, hos.trans I.os, hb, fl', hok, ⟨fun b o q n hb _ => fl'.1 b o (keepX b o q n hb), fun b o q n hb _ => slotX b o q n hb, fun b o q n _ => ?_, fun b o q _ => ?_, fun b xs q => un.tups b xs (I.base.tups b xs q), fun b o u q => un.frzs b o u (I.base.frzs b o u q), fun b ps q => ?_⟩, keepX, thereX, hea, hE⟩
    · obtain ⟨o', q'⟩ := I.base.there b o q (noex b)
      exact un.free b o' q' (I.base.free b o q n (noex b)) (by simp)
    · by_cases hb : b ∈ frs outer
      · have hn : H₀ b = none := I.ok.frf b hb
        obtain ⟨sl, q'⟩ := slotX b o q hn hb
        exact ⟨_, q'⟩
      · obtain ⟨o', q'⟩ := thereX b o q hb
        exact ⟨o', fl'.1 b o' q'⟩
    · obtain ⟨m1, e1⟩ := I.base.tbls b ps q
      obtain ⟨m2, e2⟩ := un.tbls b _ e1
      exact ⟨m1 ++ m2, by rw [e2, Array.append_assoc]⟩
end
end L2

set_option Elab.async false
set_option linter.all false
set_option maxRecDepth 100000
set_option maxHeartbeats 4000000
/-! raise, try, texts with fields. -/
namespace L2
open PySem PySem.Spec PyProof.Rows PySem.W

section
variable {P : Program} {w : World} {K : PySem.W.Frag} {mg : Str → Option Value} {base : Heap}
/-- a def that may refuse -/
theorem Fun.okX {x qual : Str} {st : Stmt} {f : Addr} {fd : FuncData} {N ps : List Str} {k : Nat} {sp : Sp} (F : Fun K x qual st f fd) (S : FnScope N ps (defScope st)) (len : ∀ vs H Q E, sp vs H Q E → vs.length = ps.length)
    (hbody : ∀ (cdv : Value) (A : Around) (outer : List Env) (s : Shared) (H : Hp) (vs : List V) (Q : VK) (E : XK), Room k (A.deeper (envOfC qual (defScope st) s.heap.objs.size f cdv)) → sp vs H Q E →
      Rz (cxOf (CX1 P w) P w K mg base N qual (defScope st) f cdv A outer s H E) E →
      ∃ t, PSs (cxOf (CX1 P w) P w K mg base N qual (defScope st) f cdv A outer s H E) (defBody st) t ∧ t { nx := fun _ H' => Q .non H', rt := Q } (start N vs) H) : FnOk P w K mg base (CX1 P w) (k + 1) f fd ps sp := by
  obtain ⟨oc, od, kV, doc, pm, an, cdv, ct, osl, rfl, lk, hcd⟩ := F.ex
  refine fn_of lk hcd S len fun A outer s H vs Q E hr hsp => ?_
  exact hbody cdv A outer s H vs Q E hr hsp rz_of
end
/-- a def that never refuses, called where refusals may pass -/
theorem FnOk.calm {P : Program} {w : World} {K : PySem.W.Frag} {mg : Str → Option Value} {base : Heap} {CX : CXT} {k : Nat} {f : Addr} {fd : FuncData} {ps : List Str} {sp : Sp} (F : FnOk P w K mg base CX0 k f fd ps sp) : FnOk P w K mg base CX k f fd ps sp :=
  ⟨F.len, fun A outer s H args us vs Q E hr he hb hv hs => codeAny_mono (F.run A outer s H args us vs Q E hr he hb hv hs) fun r s' q => by
    cases r with
    | error e => exact False.elim q
    | ok fl => cases fl <;> exact q⟩

/-- the class of a refusal, as it is written -/
abbrev veMro : List Value := [.type "ValueError", .type "Exception", .type "BaseException", .type "object"]
theorem exc_obj {K : PySem.W.Frag} {h : Heap} {C : Addr} (X : K.In h) (q : excIn K C veMro "ValueError.__new__" = true) :
    ∃ nm qn N bs bm hdct sn sub ab col dd k0 k1 k2 k3 k5 mN, h.get? C = some (excClassObj nm qn C N bs bm hdct sn sub ab col dd k0 k1 k2 k3 k5 "ValueError.__new__") ∧ h.Ns N mN ∧ mN "__init__" = none ∧ OwnTail h veMro bm := by
  unfold excIn at q
  split at q
  · rename_i dd cd sl ho
    split at q
    · rename_i C' bm k0 k1 k2 k3 n k5 hm hs
      simp only [Bool.and_eq_true, beq_iff_eq, Bool.not_eq_true'] at q
      obtain ⟨⟨⟨⟨⟨rfl, rfl⟩, hdel⟩, ht⟩, hok⟩, hni⟩ := q
      obtain ⟨nm, bs, mro, ns, qn, hd, sn, sub, ab, col, del⟩ := cd
      dsimp only at hm hdel hok hni
      subst hm hdel
      have hsl : sl = #[k0, k1, k2, k3, some (.builtin "ValueError.__new__"), k5] := by
        obtain ⟨l⟩ := sl
        simp only at hs
        rw [hs]
      subst hsl
      exact ⟨nm, qn, ns, bs, bm, hd, sn, sub, ab, col, dd, k0, k1, k2, k3, k5, _, X _ _ ho, .of_isNs (isNs_of_in X hok), nsMap_none_of_in X hok hni, tail_of_in X ht⟩
    · cases q
  · cases q
section
variable {X : Cx} {pos : Pos}
def tRaise (C : Addr) (E : XK) (te : TE) : TS := fun _ σ H => te σ H fun _ H1 => E (.ref C) none H1
theorem ps_raise {x : Str} {np cpos : Pos} {C : Addr} {E : XK} {e : Expr} {te : TE} (hc : X.calm = true) (R : Rz X E) (hg : Gl X x) (hm : X.mg x = some (.ref C)) (hK : excIn X.K C veMro "ValueError.__new__" = true) (he : PE X e te) (hst : isStar e = false := by rfl)
    (hd : (x == ("__debug__" : Str)) = false := by decide) : PS X (.Raise (some (.Call (.Name x np) [e] [] cpos)) none pos) (tRaise C E te) := by
  intro pins s σ H D I h
  obtain ⟨nm, qn, N, bs, bm, hdct, sn, sub, ab, col, dd, k0, k1, k2, k3, k5, mN, hC, hN, hni, T⟩ := exc_obj I.mod.kin hK
  have hs : starEach [e] X.env = [(false, eval e X.env)] := by rw [starEach_cons hst]; rfl
  refine wpAny_Raise_call_subT F.excBase_ValueError (C := C) (nm := nm) (q := qn) (N := N) (bs := bs) (bm := bm) (hdct := hdct) (sn := sn) (sub := sub) (ab := ab) (col := col) (dd := dd) (k0 := k0) (k1 := k1) (k2 := k2) (k3 := k3) (k5 := k5) (mN := mN)
    (T.hasType F.excBase_ValueError.hasBase) (I.ok.hd hc) (by rw [hs]; rfl) hni (ld_glob I hg hm ⟨rfl, ?_⟩ hd)
  rw [hs]
  refine Calls.evalArgs_plain (Calls.spliced_cons (thn (he pins s σ H _ I h) fun v s1 ⟨x, H1, I1, r1, q1⟩ => Calls.spliced_nil ?_))
  exact ⟨rfl, by show 1 ≤ sizeLine; decide, I1.bk _ _ hC, hN.keeps I1.bk, T.keeps I1.bk, fun h' ea hmade => R.made pins σ H1 s1 h' ea C _ I1 hmade q1⟩
/-! ### texts with fields -/
theorem pe_fmtI {a : Expr} {ta : TE} (ha : PE X a ta) : PE X (.FormattedValue a (-1) none pos) (fun σ H Q => ta σ H fun x H1 => ∃ i, x = .int i ∧ i.natAbs.log2 < 1920 ∧ Q (.str (toString i)) H1) := by
  intro pins s σ H Q I h
  refine wpAny_FormattedValue_plain (thn (ha pins s σ H _ I h) fun v s1 ⟨x, H1, I1, r1, i, e, hl, q⟩ => ?_)
  subst e
  obtain ⟨t, rfl⟩ := r1
  exact wpAny_formatField_int hl ⟨.str (toString i), H1, I1.tok _, ⟨_, rfl⟩, q⟩
/-- a part of such a text -/
def tBit (t : TE) (k : Hp → Prop) : St → Hp → Prop := fun σ H => t σ H fun x H1 => ∃ l : Str, x = .str l ∧ l.length ≤ 1000 ∧ k H1
theorem len_add (a b : Str) : (a ++ b).length = a.length + b.length := strLen_append a b
theorem pe_fstr3 {a b c : Expr} {ta tb tc : TE} (ha : PE X a ta) (hb : PE X b tb) (hc : PE X c tc) : PE X (.JoinedStr [a, b, c] pos) (fun σ H Q => tBit ta (fun H1 => tBit tb (fun H2 => tBit tc (fun H3 => ∀ z, Q (.str z) H3) σ H2) σ H1) σ H) := by
  intro pins s σ H Q I h
  refine wpAny_JoinedStr ?_
  have e0 : Str.empty.length = 0 := rfl
  refine thn (ha pins s σ H _ I h) fun v s1 ⟨x, H1, I1, r1, l, ex, hl, q1⟩ => ?_
  subst ex
  obtain ⟨t, rfl⟩ := r1
  refine ⟨l, t, rfl, big _ (by rw [len_add, e0]; omega), ?_⟩
  refine thn (hb pins s1 σ H1 _ I1 q1) fun v s2 ⟨y, H2, I2, r2, m, ey, hm, q2⟩ => ?_
  subst ey
  obtain ⟨t', rfl⟩ := r2
  refine ⟨m, t', rfl, big _ (by rw [len_add, len_add, e0]; omega), ?_⟩
  refine thn (hc pins s2 σ H2 _ I2 q2) fun v s3 ⟨z, H3, I3, r3, n, ez, hn, q3⟩ => ?_
  subst ez
  obtain ⟨t'', rfl⟩ := r3
  refine ⟨n, t'', rfl, big _ (by rw [len_add, len_add, len_add, e0]; omega), big _ (by rw [len_add, len_add, len_add, e0]; omega), ?_⟩
  exact ⟨.str _, H3, I3.tok _, ⟨_, rfl⟩, q3 _⟩
end
end L2

set_option Elab.async false
set_option linter.all false
set_option maxRecDepth 100000
set_option maxHeartbeats 4000000
/-! try: .. except T as n: .. -/
namespace L2
open PySem PySem.Spec PyProof.Rows PySem.W

/-- the body of a try: W is what is wanted of an exception, pn all pins -/
abbrev Cx.inTry (X : Cx) (pn : List (Addr × Obj)) (W : Value → Shared → Prop) : Cx := { X with pn := pn, xe := W }
/-- the suite of an except clause -/
abbrev Cx.inSuite (X : Cx) (pn : List (Addr × Obj)) (ea : Addr) : Cx := { X with A := X.A.mark (some (.ref ea)), calm := false, pn := pn, xe := fun _ _ => False }
section
variable {X : Cx} {pins : List (Addr × Obj)} {σ : St} {H : Hp} {s : Shared}
theorem okTry (ok : X.Ok) (pn : List (Addr × Obj)) (W : Value → Shared → Prop) : (X.inTry pn W).Ok :=
  ⟨ok.mod, ok.kind, ok.glob, ok.blt, ok.above, ok.inj, ok.has, ok.cab, ok.hd, ok.frames, ok.stk, ok.exf, ok.bs, ok.bsz, ok.noex, ok.exfs, ok.funs, ok.frf⟩
theorem Inv.inTry (I : Inv X pins σ H s) (W : Value → Shared → Prop) : Inv (X.inTry (X.pn ++ pins) W) [] σ H s :=
  ⟨okTry I.ok _ W, I.os, I.bare, I.base, I.loc, I.cell, I.free, I.freeC, fun p hp => I.pin p (by
    have hp' : p ∈ (X.pn ++ pins) ++ [] := hp
    simpa using hp'), I.hok, I.len⟩
theorem Inv.outTry {W : Value → Shared → Prop} {pins' : List (Addr × Obj)} (ok : X.Ok) (I : Inv (X.inTry (X.pn ++ pins) W) pins' σ H s) : Inv X pins σ H s :=
  ⟨ok, I.os, I.bare, I.base, I.loc, I.cell, I.free, I.freeC, fun p hp => I.pin p (List.mem_append_left _ hp), I.hok, I.len⟩
theorem Inv.outSuite {pins' : List (Addr × Obj)} {ea : Addr} (ok : X.Ok) (I : Inv (X.inSuite (X.pn ++ pins) ea) pins' σ H s) : Inv X pins σ H s :=
  ⟨ok, I.os, I.bare, I.base, I.loc, I.cell, I.free, I.freeC, fun p hp => I.pin p (List.mem_append_left _ hp), I.hok, I.len⟩
/-- what a caught exception leaves -/
theorem Inv.caught {W : Value → Shared → Prop} {pn pins' : List (Addr × Obj)} {H' : Hp} {s' : Shared} {ea C : Addr} {B h6 : Heap} {a0 : Value} (hstk : X.stack = X.env :: X.outer ∧ X.env.frame = some X.env.locals) (hex : X.ex = [])
    (I : Inv (X.inTry pn W) pins' σ H s) (hos : s'.os = s.os) (hb : AllBare s'.gens) (hok : HOk X.prog X.w H' B) (un : Un (frs X.stack) [] H H' s.heap s'.heap)
    (keepB : ∀ b o, s.heap.get? b = some o → H b = none → b ∉ frs X.stack → B.get? b = some o) (thereB : ∀ b o, s.heap.get? b = some o → b ∉ frs X.stack → ∃ o', B.get? b = some o') (hea : H' ea = none)
    (fl : Heap.FlyingW B X.stack ea (.ref C) a0 h6) (up : s'.heap.UpToSlots h6) :
    Inv (X.inSuite pn ea) [] (List.replicate σ.length none) (upd H' ea (excO C ea)) { s' with heap := h6 } := by
  obtain ⟨f1, f2, f3, oe, vs, T, oT, ts, e1, e2, e3, _⟩ := id fl
  have frm : frs X.stack = X.env.locals :: X.fs := by
    rw [hstk.1]
    unfold frs
    rw [List.filterMap_cons, hstk.2]
    rfl
  -- the frames that run are no records
  have frn : ∀ b, b ∈ frs X.stack → b ≠ ea := fun b hb' z => by
    obtain ⟨_, o, q, nf⟩ := f3.mem hb'
    rw [z, e1] at q
    cases q
    exact nf vs e3
  have nB : ∀ b o, B.get? b = some o → b ≠ ea := fun b o q z => by rw [z, f2] at q; cases q
  have nd : ∀ b o, s.heap.get? b = some o → b ∈ frs X.stack → ∀ vs, o.data ≠ .fields vs := fun b o q hb' => by
    obtain ⟨_, o2, q2, nf⟩ := I.stack.mem hb'
    have q2' : s.heap.get? b = some o2 := q2
    rw [q] at q2'
    cases q2'
    exact nf
  have slot : ∀ b o, s.heap.get? b = some o → H b = none → b ∈ frs X.stack → ∃ sl, h6.get? b = some { o with slots := sl } := fun b o q n hb' => by
    obtain ⟨sl, q'⟩ := un.slot b o q n hb' (by simp)
    obtain ⟨sl', q''⟩ := up b _ q' (by intro vs z; exact nd b o q hb' vs z)
    exact ⟨sl', q''⟩
  have keep : ∀ b o, s.heap.get? b = some o → H b = none → b ∉ frs X.stack → h6.get? b = some o := fun b o q n hb' => f1 b o (keepB b o q n hb')
  have fre : ∀ b o, s.heap.get? b = some o → H b = none → (upd H' ea (excO C ea)) b = none := fun b o q n => by
    have hne : b ≠ ea := by
      by_cases hb' : b ∈ frs X.stack
      · exact frn b hb'
      · exact nB b o (keepB b o q n hb')
    rw [upd_ne hne]
    exact un.free b o q n (by simp)
  have oldf : ∀ b o, X.s₀.heap.get? b = some o → b ∉ X.fs → b ∉ frs X.stack := fun b o q hb' z => by
    rw [frm] at z
    rcases List.mem_cons.mp z with e | e
    · exact absurd (Heap.lt_size q) (by have := I.ok.above; rw [e]; exact Nat.not_lt.mpr this)
    · exact hb' e
  have subf : ∀ b, b ∈ X.fs → b ∈ frs X.stack := fun b hb' => by rw [frm]; exact List.mem_cons_of_mem _ hb'
  have noex : ∀ b : Addr, b ∉ X.ex := fun b z => by rw [hex] at z; cases z
  obtain ⟨m, ⟨oL, es, ep, hoL, hrest⟩, _⟩ := I.loc
  have locIn : X.env.locals ∈ frs X.stack := by rw [frm]; exact List.mem_cons_self
  obtain ⟨slL, hL6⟩ := slot _ _ hoL I.free locIn
  refine ⟨⟨I.ok.mod, I.ok.kind, I.ok.glob, I.ok.blt, I.ok.above, I.ok.inj, I.ok.has, I.ok.cab, (fun z => nomatch z), I.ok.frames, I.ok.stk, I.ok.exf, I.ok.bs, I.ok.bsz, I.ok.noex, I.ok.exfs, I.ok.funs, I.ok.frf⟩, hos.trans I.os, hb,
    ⟨fun b o q n hb' hx => ?_, fun b o q n hb' hx => ?_, fun b o q n hx => ?_, fun b o q hx => ?_, fun b xs q => ?_, fun b o u q => ?_, fun b ps q => ?_⟩, ⟨m, ⟨_, es, ep, hL6, hrest⟩, fun i x v h1 h2 _ => ?_⟩, fun x c hc => ?_, ?_, fun x c hc => ?_, fun p hp => ?_, fun a o q => ?_, ?_⟩
  · exact keep b o (I.base.keep b o q n hb' hx) (I.base.free b o q n hx) (oldf b o q hb')
  · obtain ⟨sl, q'⟩ := I.base.slot b o q n hb' hx
    obtain ⟨sl', q''⟩ := slot b _ q' (I.base.free b o q n hx) (subf b hb')
    exact ⟨sl', q''⟩
  · obtain ⟨o', q'⟩ := I.base.there b o q hx
    exact fre b o' q' (I.base.free b o q n hx)
  · obtain ⟨o', q'⟩ := I.base.there b o q hx
    by_cases hb' : b ∈ frs X.stack
    · have hn := I.stkFree b hb'
      obtain ⟨sl, q''⟩ := slot b o' q' hn hb'
      exact ⟨_, q''⟩
    · obtain ⟨o'', q''⟩ := thereB b o' q' hb'
      exact ⟨o'', f1 b o'' q''⟩
  · have z := un.tups b xs (I.base.tups b xs q)
    rw [upd_ne (ne_of_none z hea)]
    exact z
  · have z := un.frzs b o u (I.base.frzs b o u q)
    rw [upd_ne (ne_of_none z hea)]
    exact z
  · obtain ⟨m1, z1⟩ := I.base.tbls b ps q
    obtain ⟨m2, z2⟩ := un.tbls b _ z1
    exact ⟨m1 ++ m2, by rw [upd_ne (ne_of_none z2 hea), z2, Array.append_assoc]⟩
  · rw [List.getElem?_replicate] at h2
    split at h2 <;> cases h2
  · obtain ⟨v, o, ho, hd⟩ := I.cell x c hc
    by_cases hb' : c ∈ frs X.stack
    · obtain ⟨sl, q''⟩ := slot c o ho (I.freeC x c hc) hb'
      exact ⟨v, _, q'', hd⟩
    · exact ⟨v, o, keep c o ho (I.freeC x c hc) hb', hd⟩
  · exact fre _ _ hoL I.free
  · obtain ⟨v, o, ho, hd⟩ := I.cell x c hc
    exact fre c o ho (I.freeC x c hc)
  · have hp' : p ∈ pn ++ pins' := by
      have hp2 : p ∈ pn ++ [] := hp
      exact List.mem_append_left _ (by simpa using hp2)
    obtain ⟨q, n, ne, nf, d⟩ := I.pin p hp'
    have hb' : p.1 ∉ frs X.stack := fun z => by
      rw [frm] at z
      rcases List.mem_cons.mp z with e | e
      · exact ne e
      · exact nf e
    exact ⟨keep _ _ q n hb', fre _ _ q n, ne, nf, d⟩
  · by_cases ha : a = ea
    · subst ha
      rw [upd_same] at q
      cases q
      exact ⟨⟨oe, e1, e2.1⟩, ⟨oe, e1⟩, fun h1 h2 ⟨o, z1, z2⟩ k => ⟨o, k o z1, z2⟩⟩
    · rw [upd_ne ha] at q
      exact (hok a o q).stay (fun c u _ r => f1 c u r) (fun c r => by rw [upd_ne (ne_of_none r hea)]; exact r) fun c xs r => by rw [upd_ne (ne_of_none r hea)]; exact r
  · show (List.replicate σ.length none).length = X.N.length
    rw [List.length_replicate]
    exact I.len
/-- the name of an except clause goes -/
theorem Inv.goes {h' : Heap} {t' : Nat} {v : Option Value} {i : Nat} {n : Str} {m : Str → Option Value} (I : Inv X pins σ H s) (hN : X.N.Nodup) (hi : X.N[i]? = some n)
    (hm : s.heap.Ns X.env.locals m) (hlk : ∀ (i : Nat) (x : Str) (v : V), X.N[i]? = some x → σ[i]? = some (some v) → Vis X.env.scope x → ∃ u, RelV v u ∧ Look X.env s.heap m x u)
    (hn : h'.Ns X.env.locals (fun x => if x = n then v else m x)) (sb : Heap.SameBut X.env.locals s.heap h') : Inv X pins (σ.set i none) H { s with heap := h', toks := t' } := by
  have cne := I.cne
  have hiσ : i < σ.length := by rw [I.len]; exact (List.getElem?_eq_some_iff.mp hi).1
  have nL : ∀ b o, X.s₀.heap.get? b = some o → b ≠ X.env.locals := fun b o e => Nat.ne_of_lt (Nat.lt_of_lt_of_le (Heap.lt_size e) I.ok.above)
  refine ⟨I.ok, I.os, I.bare, ⟨fun b o e n hb hx => ?_, fun b o e n hb hx => ?_, I.base.free, fun b o e hx => ?_, I.base.tups, I.base.frzs, I.base.tbls⟩, ⟨_, hn, fun j y v' e1 e2 e3 => ?_⟩, fun y c e => ?_, I.free, I.freeC, fun p hp => ?_, fun b ob e => ?_, by simpa using I.len⟩
  · exact (sb.2 b (nL b o e)).trans (I.base.keep b o e n hb hx)
  · obtain ⟨sl, q⟩ := I.base.slot b o e n hb hx
    exact ⟨sl, (sb.2 b (nL b o e)).trans q⟩
  · obtain ⟨o', q⟩ := I.base.there b o e hx
    exact ⟨o', (sb.2 b (nL b o e)).trans q⟩
  · by_cases hj : j = i
    · subst hj
      rw [List.getElem?_set_self hiσ] at e2
      cases e2
    · rw [List.getElem?_set_ne (Ne.symm hj)] at e2
      obtain ⟨u', r', q⟩ := hlk j y v' e1 e2 e3
      refine ⟨u', r', ?_⟩
      rcases q with ⟨k, e⟩ | ⟨k, c, e, z⟩
      · refine .inl ⟨k, ?_⟩
        have : y ≠ n := fun e => hj (nodup_ix hN e1 (e ▸ hi))
        simp [this, e]
      · exact .inr ⟨k, c, e, z.sameBut sb (cne y c e)⟩
  · obtain ⟨w', z⟩ := I.cell y c e
    exact ⟨w', z.sameBut sb (cne y c e)⟩
  · obtain ⟨e, n, ne, nf, d⟩ := I.pin p hp
    exact ⟨(sb.2 p.1 ne).trans e, n, ne, nf, d⟩
  · refine (I.hok b ob e).stay (fun c w' hc q => (sb.2 c ?_).trans q) (fun _ q => q) fun _ _ q => q
    have hfree := I.free
    rintro rfl
    rcases hc with rfl | hc
    · rw [hfree] at e; cases e
    · rw [hfree] at hc; cases hc
/-- the reading of a try: a refusal of a class that T takes ends in the suite, with all names forgotten but n -/
def eTry (K : PySem.W.Frag) (CT : Addr) (iN : Nat) (ts : TS) (D : Ends) (n : Nat) : XK := fun cls _ H' => ∀ ea C, cls = .ref C → H' ea = none → exmOne K (.ref C) (.ref CT) = some true ∧
  ts { nx := fun σ2 H2 => D.nx (σ2.set iN none) H2, rt := D.rt, bk := fun σ2 H2 => D.bk (σ2.set iN none) H2, ct := fun σ2 H2 => D.ct (σ2.set iN none) H2 } ((List.replicate n none).set iN (some (.ref ea))) (upd H' ea (excO C ea))
def tTry (K : PySem.W.Frag) (CT : Addr) (iN : Nat) (tb : XK → TS) (ts : TS) : TS := fun D σ H => tb (eTry K CT iN ts D σ.length) D σ H
end
section
variable {X : Cx} {pos hpos np : Pos} {T n : Str} {CT : Addr} {body suite : List Stmt} {b₀ : Stmt} {tb : XK → TS} {ts : TS} {iN : Nat}
theorem ps_try (hc : X.calm = true) (hstk : X.stack = X.env :: X.outer ∧ X.env.frame = some X.env.locals) (hex : X.ex = []) (hN : X.N.Nodup) (hi : X.N[iN]? = some n) (hl : X.env.scope.names.lookup n = some .local)
    (hg : Gl X T) (hm : X.mg T = some (.ref CT)) (hb : ∀ pn W E', Passes (CX1 X.prog X.w) (X.inTry pn W) E' → PSs (X.inTry pn W) body (tb E')) (hs : ∀ pn ea, PSs (X.inSuite pn ea) (b₀ :: suite) ts)
    (hd : (T == ("__debug__" : Str)) = false := by decide) :
    PS X (.Try body [.ExceptHandler (some (.Name T np)) (some n) (b₀ :: suite) hpos] [] [] pos) (tTry X.K CT iN tb ts) := by
  intro pins s σ H D I h
  have hp : (X.env.scope.kind == .class || (X.env.scope.kind == .module && X.env.locals != X.env.globals)) = false := by rw [I.ok.kind]; rfl
  refine wpAny_Try_except ?_
  have hpass : Passes (CX1 X.prog X.w) (X.inTry (X.pn ++ pins) (fun e s₁ => wpAny (model X.prog X.w) X.A (noteFrame e X.env) (fun _ s₂ => wpAny (model X.prog X.w) X.A (setFlight e none) (fun _ s₃ => wpAny (model X.prog X.w) X.A (handleBy e X.env [.ExceptHandler (some (.Name T np)) (some n) (b₀ :: suite) hpos]) (SP X pins D) X.xe s₃) X.xe s₂) X.xe s₁)) (eTry X.K CT iN ts D σ.length) := by
    intro pins' σ' H1 s1 e s1' I1 hcx
    obtain ⟨ea, C, H', B, a0, rfl, hos, hbare, fl, hok, un, keepB, thereB, hea, hE⟩ := hcx
    have hfr : X.A.frames = some (X.env :: X.outer) := by rw [← hstk.1]; exact I1.ok.frames
    have fl' : Heap.FlyingW B (X.env :: X.outer) ea (.ref C) a0 s1'.heap := by rw [← hstk.1]; exact fl
    refine wpAny_looks_onW hfr hstk.2 fl' fun h4 held up4 => ?_
    refine wpAny_landsW held fun h5 fl5 up5 => ?_
    have inB : ∀ b o, X.base.get? b = some o → B.get? b = some o := fun b o q => by
      have q2 := I1.bs b o q
      refine keepB b o q2.1 q2.2 fun z => ?_
      have := (I1.stack.mem z).1
      rw [show X.base.get? b = some o from q] at this
      cases this
    have K5 : ∀ {h : Heap}, Heap.FlyingW B (X.env :: X.outer) ea (.ref C) a0 h → X.K.In h := fun {h} z => I1.ok.mod.kin.keeps fun b o q => z.1 b o (inB b o q)
    refine wpAny_handleBy_cons (codeAny_handlers_test ?_) (by intro q; cases q)
    have g5 : h5.Ns mainGlobals X.mg := I1.ok.mod.glob.keeps fun b o q => fl5.1 b o (inB b o q)
    refine Calls.Name_function_global I1.ok.kind hg (Calls.loadGlobal_global (by rw [show X.env.globals = mainGlobals from I1.ok.glob]; exact g5) hm ?_) hd
    obtain ⟨hmatch, hsuite⟩ := hE ea C rfl hea
    obtain ⟨ob, hob, hobc⟩ := fl5.there
    have LT : Looks (model X.prog X.w) h5 (typeOf (.ref ea)) (.ref C) := hobc ▸ (Looks.ld hob).andThen .now
    refine (exm_one (M := model X.prog X.w) (K5 fl5) LT hmatch).at ?_
    refine codeAny_handlers_suite_as ?_
    refine lands_againW fl5 fun h6 fl6 up6 => ?_
    have upAll : s1'.heap.UpToSlots h6 := (up4.trans up5).trans up6
    have fl6' : Heap.FlyingW B X.stack ea (.ref C) a0 h6 := by rw [hstk.1]; exact fl6
    have I6 := Inv.caught (X := X) hstk hex I1 hos hbare hok un keepB thereB hea fl6' upAll
    have hlen : σ'.length = σ.length := by rw [show σ'.length = X.N.length from I1.len, show σ.length = X.N.length from I.len]
    rw [hlen] at I6
    refine store_ok (X := X.inSuite (X.pn ++ pins) ea) I6 hN hi (.inl hl) (v := .ref ea) rfl (fun s7 I7 => ?_) (.inr hl)
    refine wpAny_mono (hs (X.pn ++ pins) ea [] s7 _ _ _ I7 hsuite) (fun f s8 q8 => ?_) fun _ _ z => z.elim
    -- the name goes
    have fin : ∀ {σ8 : St} {H8 : Hp}, Inv (X.inSuite (X.pn ++ pins) ea) [] σ8 H8 s8 → ∀ (Q : Unit → Shared → Prop), (∀ s9, Inv X pins (σ8.set iN none) H8 s9 → Q () s9) → wpAny (model X.prog X.w) X.A (do bindName X.env n .none; unbindBehindTheSuite X.env n hpos) Q X.xe s8 := fun {σ8 H8} I8 Q k => by
      have I9 : Inv X pins σ8 H8 s8 := I8.outSuite I.ok
      obtain ⟨m, hm', hlk⟩ := I9.loc
      exact wpAny_nameGoes_keeps hl hm' hp fun h' v hn sb => k _ (I9.goes hN hi hm' hlk hn sb)
    cases f with
    | next =>
      obtain ⟨σ8, H8, I8, q⟩ := q8
      exact fin I8 _ fun s9 I9 => ⟨_, H8, I9, q⟩
    | brk =>
      obtain ⟨σ8, H8, I8, q⟩ := q8
      exact fin I8 _ fun s9 I9 => ⟨_, H8, I9, q⟩
    | cont =>
      obtain ⟨σ8, H8, I8, q⟩ := q8
      exact fin I8 _ fun s9 I9 => ⟨_, H8, I9, q⟩
    | ret v =>
      obtain ⟨x8, σ8, H8, I8, r8, q⟩ := q8
      exact fin I8 _ fun s9 I9 => ⟨x8, _, H8, I9, r8, q⟩
  refine thn (hb (X.pn ++ pins) _ _ hpass [] s σ H D (I.inTry _) h) fun f s1 q1 => ?_
  cases f with
  | next =>
    obtain ⟨σ1, H1, I1, q⟩ := q1
    exact wpAny_execs_nil ⟨σ1, H1, I1.outTry I.ok, q⟩
  | brk => obtain ⟨σ1, H1, I1, q⟩ := q1; exact ⟨σ1, H1, I1.outTry I.ok, q⟩
  | cont => obtain ⟨σ1, H1, I1, q⟩ := q1; exact ⟨σ1, H1, I1.outTry I.ok, q⟩
  | ret v => obtain ⟨x1, σ1, H1, I1, r1, q⟩ := q1; exact ⟨x1, σ1, H1, I1.outTry I.ok, r1, q⟩
end
end L2

set_option Elab.async false
set_option linter.all false
set_option maxRecDepth 100000
set_option maxHeartbeats 4000000
/-! Methods of lists and texts. -/
namespace L2
open PySem PySem.Spec PyProof.Rows PySem.W

theorem countP_eqU {x : V} : ∀ {xs : List V} {us : List Value}, Vals xs us → xs.all flatV = true → us.countP (eqU x) = xs.countP fun y => eqV y x
  | _, _, .nil, _ => rfl
  | y :: xs, u :: us, .cons r t, f => by
    rw [List.all_cons, Bool.and_eq_true] at f
    rw [List.countP_cons, List.countP_cons, eqU_of r f.1, countP_eqU t f.2]
section
variable {X : Cx}
/-- xs.count(v), flat items -/
theorem mt_countV : MtR X "list.count" (fun x vs H Q => ∃ p xs y, x = .ref p ∧ vs = [y] ∧ H p = some (.lst xs) ∧ flatV y = true ∧ xs.all flatV = true ∧ Q (.int (xs.countP fun z => eqV z y)) H) := by
  intro pins s σ H x vs v us Q I rx rv ⟨p, xs, y, ex, ev, hH, fy, fx, q⟩
  subst ex ev
  cases rx
  obtain ⟨u, rfl, ru⟩ := rv.one
  obtain ⟨z, its, n, r, hl, e⟩ := I.lstM hH
  refine call_meets F.slot_list_count ⟨_, e, rfl⟩ F.entry_list_count (F.args_list_count_2 _ _) (SeqAt.list_countAt p its.toArray n none #[] u (eqU y)) ⟨e, fun w hw => mem_eqAt ru fy r fx w (by simpa using hw), ?_⟩
  refine ⟨.int (xs.countP fun z => eqV z y), H, I.tok _, ⟨s.toks, ?_⟩, q⟩
  rw [← countP_eqU r fx]
/-- xs.index(v), at the first place j -/
theorem mt_indexV : MtR X "list.index" (fun x vs H Q => ∃ p xs y j, x = .ref p ∧ vs = [y] ∧ H p = some (.lst xs) ∧ flatV y = true ∧ xs.all flatV = true ∧ (∃ z, xs[j]? = some z ∧ eqV z y = true) ∧ (∀ m z, m < j → xs[m]? = some z → eqV z y = false) ∧ Q (.int (j : Nat)) H) := by
  intro pins s σ H x vs v us Q I rx rv ⟨p, xs, y, j, ex, ev, hH, fy, fx, ⟨z, hz, hit⟩, hno, q⟩
  subst ex ev
  cases rx
  obtain ⟨u, rfl, ru⟩ := rv.one
  obtain ⟨zl, its, n, r, hl, e⟩ := I.lstM hH
  have hj : j < its.length := by rw [← hl]; exact (List.getElem?_eq_some_iff.mp hz).1
  have fl : ∀ m zz, xs[m]? = some zz → flatV zz = true := fun m zz h => List.all_eq_true.mp fx zz (List.mem_of_getElem? h)
  have at_ : ∀ m zz, xs[m]? = some zz → ∀ (hm : m < its.length), eqU y its[m] = eqV zz y := fun m zz h hm => by
    obtain ⟨w, hw, rw'⟩ := r.get h
    have hw' : its[m] = w := by simpa [hm] using hw
    rw [hw']
    exact eqU_of rw' (fl m zz h)
  have hsm : (j : Int) < 2 ^ 63 - 1 := by
    have := sizeLine_eq
    have h24 : sizeLine = 2 ^ 24 := rfl
    omega
  refine call_meets F.slot_list_index ⟨_, e, rfl⟩ F.entry_list_index (F.args_list_index_2 _ _) (SeqAt.list_indexAt p its.toArray n none #[] u (eqU y) j (by simpa using hj) hsm ?_ ?_) ⟨e, fun w hw => mem_eqAt ru fy r fx w (by simpa using hw), ?_⟩
  · simp only [List.getElem_toArray]
    rw [at_ j z hz hj]
    exact hit
  · intro m hm hmj
    have hm' : m < its.length := by simpa using hm
    have hx : m < xs.length := by omega
    simp only [List.getElem_toArray]
    rw [at_ m xs[m] (by simp [hx]) hm']
    exact hno m _ hmj (by simp [hx])
  · exact ⟨.int (j : Nat), H, I.tok _, ⟨s.toks, rfl⟩, q⟩
/-! ### ''.join(xs) -/
theorem glued_nil (parts : List (List Nat)) : (Txt.join ⟨([] : List Nat).toArray⟩ (parts.map fun l => (⟨l.toArray⟩ : Str))) = ⟨parts.flatten.toArray⟩ := by
  apply Str_ext
  unfold Txt.join Builtin.Str.glued
  have key : ∀ (ps : List (List Nat)) (acc : Array Nat), (ps.map fun l => (⟨l.toArray⟩ : Str)).foldl (fun acc p => acc ++ (⟨([] : List Nat).toArray⟩ : Str).cps ++ p.cps) acc = acc ++ ps.flatten.toArray := by
    intro ps
    induction ps with
    | nil => intro acc; simp
    | cons l ps ih =>
      intro acc
      rw [List.map_cons, List.foldl_cons, ih]
      simp
  cases parts with
  | nil => rfl
  | cons l ps =>
    show (((l :: ps).map fun l => (⟨l.toArray⟩ : Str)).drop 1 |>.foldl (fun acc p => acc ++ (⟨([] : List Nat).toArray⟩ : Str).cps ++ p.cps) (l.toArray)).toList = _
    rw [List.map_cons, List.drop_one, List.tail_cons, key]
    simp
theorem strsAre_of : ∀ {ls : List (List Nat)} {us : List Value}, Vals (ls.map S) us → StrsAre us (ls.map fun l => (⟨l.toArray⟩ : Str))
  | [], _, .nil => .nil
  | l :: ls, _, .cons r t => by
    obtain ⟨tk, rfl⟩ := r
    exact .cons _ tk (strsAre_of t)
theorem mt_joinS : MtR X "str.join" (fun x vs H Q => ∃ (p : Addr) (ls : List (List Nat)), x = S [] ∧ vs = [.ref p] ∧ SqL X.K H p (ls.map S) ∧ ls.flatten.length ≤ 10000 ∧ Q (S ls.flatten) H) := by
  intro pins s σ H x vs v us Q I rx rv ⟨p, ls, ex, ev, hq, hl, q⟩
  subst ex ev
  obtain ⟨t, rfl⟩ := rx
  obtain ⟨u, rfl, ru⟩ := rv.one
  cases ru
  obtain ⟨its, r, pl, hz⟩ := I.list hq
  have hs : ((ls.map fun l => (⟨l.toArray⟩ : Str)).map (·.length)).sum = ls.flatten.length := by
    rw [List.length_flatten, List.map_map]
    rfl
  refine join_list pl.isList (by simpa using strsAre_of r) ?_ fun t' k => ⟨S ls.flatten, H, I.tok k, ⟨t', ?_⟩, q⟩
  · rw [hs]
    have e0 : (⟨([] : List Nat).toArray⟩ : Str).length = 0 := rfl
    rw [e0]
    omega
  · rw [glued_nil]
/-! ### list(text) -/
end

/-! ### a def that may be called -/
def Cal (P : Program) (w : World) (K : PySem.W.Frag) (mg : Str → Option Value) (base : Heap) (CX : CXT) (k : Nat) (x : Str) (ps : List Str) (sp : Sp) : Prop :=
  ∃ (f : Addr) (fd : FuncData), FnOk P w K mg base CX k f fd ps sp ∧ mg x = some (.ref f) ∧ PySem.W.keepIn K (.ref f) = true ∧ Binds K fd ps []
theorem Cal.calm {P : Program} {w : World} {K : PySem.W.Frag} {mg : Str → Option Value} {base : Heap} {CX : CXT} {k : Nat} {x : Str} {ps : List Str} {sp : Sp} (C : Cal P w K mg base CX0 k x ps sp) : Cal P w K mg base CX k x ps sp := by
  obtain ⟨f, fd, h1, h2⟩ := C
  exact ⟨f, fd, h1.calm, h2⟩
section
variable {X : Cx} {CX : CXT} {k : Nat} {x : Str} {ps : List Str} {sp : Sp} {E : XK} {p pos : Pos} {e : Expr} {es : List Expr} {t : TA}
theorem pe_cal (C : Cal X.prog X.w X.K X.mg X.base CX k x ps sp) (hr : Room k X.A) (hx : Passes CX X E) (ha : PA X (e :: es) t) (hst : isStar e = false := by rfl) (hg : Gl X x := by rfl) (hdb : (x == ("__debug__" : Str)) = false := by decide) (hpl : (backTo pos (starEach es X.env)).any (·.1) = false := by rfl) :
    PE X (.Call (.Name x p) (e :: es) [] pos) (tCall sp [] E t) := by
  obtain ⟨f, fd, h1, h2, h3, h4⟩ := C
  exact pe_call h1 hr hg h2 h3 h4 .nil hx ha hdb (starEach_cons hst) hpl
end
end L2

set_option Elab.async false
set_option linter.all false
set_option maxRecDepth 100000
set_option maxHeartbeats 4000000
/-! Comprehensions over data. -/
namespace L2
open PySem PySem.Spec PyProof.Rows PySem.W

theorem range_filterMap {α β : Type} (l : List α) (f : Option α → Option β) : (List.range l.length).filterMap (fun i => f l[i]?) = l.filterMap fun x => f (some x) := by
  have h := map_range_get l f
  have e1 : (List.range l.length).filterMap (fun i => f l[i]?) = ((List.range l.length).map fun i => f l[i]?).filterMap id := by rw [List.filterMap_map]; rfl
  have e2 : (l.filterMap fun x => f (some x)) = (l.map fun x => f (some x)).filterMap id := by rw [List.filterMap_map]; rfl
  rw [e1, e2, h]
section
variable {K : PySem.W.Frag} {k : Nat} {fr : List Nat} {g : TG} {tc : TT} {te : TE} {σ : St} {H1 : Hp} {Q : VK}
/-- what a turn owes: the values' data, or nothing -/
abbrev StepD (K : PySem.W.Frag) (k : Nat) (fre : St) (g : TG) (tc : TT) (te : TE) (H1 : Hp) (D : Addr) (own : St) (ys : List V) (H2 H3 : Hp) (x : V) (o : Option Dt) : Prop :=
  ∀ (Kt : St → V → Hp → Prop) (Kf : St → Hp → Prop), own.length = k → Same H1 H2 → H2 D = some (.lst ys) → H1 D = none → Same H2 H3 →
    (∀ own' v H6 a, own'.length = k → Same H2 H6 → o = some a → Rep K (del H6 D) a v → Kt (own' ++ fre) v H6) →
    (∀ own' H5, own'.length = k → Same H2 H5 → o = none → Kf (own' ++ fre) H5) →
    g x (own ++ fre) H3 fun σ2 H4 => tc σ2 H4 fun b H5 => if b = true then te σ2 H5 (Kt σ2) else Kf σ2 H5
/-- over a range -/
theorem comp_range (lo : Int) (n : Nat) (f : Nat → Option Dt) (fre : St) (hfre : fre = fr.map fun j => (σ[j]?).getD none) (hsz : n ≤ sizeLine)
    (step : ∀ D own ys H2 i, i < n → StepD K k fre g tc te H1 D own ys H2 H2 (.int (lo + (i : Nat))) (f i))
    (fin : ∀ D H', Rep K H' (.lst ((List.range n).filterMap f)) (.ref D) → Same H1 H' → Q (.ref D) H') : rdComp k fr g tc te σ (Itr lo n) H1 Q := by
  refine rdComp_rep (K := K) n f fre hfre hsz itr_go itr_stop itr_yl ?_ ?_
  · intro D i own ys H2 x H3 Kt Kf hi ho sm hD2 hD1 y sy kt kf
    obtain ⟨e, hx⟩ := y
    subst e hx
    exact step D own ys H3 i hi Kt Kf ho sm hD2 hD1 sy kt kf
  · rintro D H' ⟨ys, h1, h2⟩ s
    exact fin D H' (rep_lst h1 h2) s
/-- over a list of data -/
theorem comp_list {a : Addr} (ds : List Dt) (f : Dt → Option Dt) (fre : St) (hfre : fre = fr.map fun j => (σ[j]?).getD none) (hr : Rep K H1 (.lst ds) (.ref a)) (hsz : ds.length ≤ sizeLine)
    (step : ∀ D own ys H2 x d, d ∈ ds → Rep K H2 d x → StepD K k fre g tc te H1 D own ys H2 H2 x (f d))
    (fin : ∀ D H', Rep K H' (.lst (ds.filterMap f)) (.ref D) → Same H1 H' → Q (.ref D) H') : rdComp k fr g tc te σ (Itl K a) H1 Q := by
  simp only [Rep] at hr
  obtain ⟨a', xs, ea, hq, hxs⟩ := hr
  cases ea
  have hl := hxs.length
  refine rdComp_rep (K := K) ds.length (fun i => (ds[i]?).bind f) fre hfre hsz (fun i H h s => ⟨xs, xs[i]'(by omega), s.seq hq, by simp⟩) (fun H s => ⟨xs, s.seq hq, by omega⟩) (fun i H x H' y => by rw [y.1]; exact .refl _) ?_ ?_
  · intro D i own ys H2 x H3 Kt Kf hi ho sm hD2 hD1 y sy kt kf
    obtain ⟨e, hx⟩ := y
    subst e
    have hx' := hx xs (sm.seq hq)
    obtain ⟨d, hd, rd⟩ := hxs.get hx'
    have e : (ds[i]?).bind f = f d := by rw [hd]; rfl
    rw [e] at kt kf
    exact step D own ys H3 x d (List.mem_of_getElem? hd) (rd.mono sm) Kt Kf ho sm hD2 hD1 sy kt kf
  · rintro D H' ⟨ys, h1, h2⟩ s
    have e : (List.range ds.length).filterMap (fun i => (ds[i]?).bind f) = ds.filterMap f := range_filterMap ds fun o => o.bind f
    rw [e] at h2
    exact fin D H' (rep_lst h1 h2) s
end
/-! ### what the top has -/
def FnT (K : PySem.W.Frag) (mg : Str → Option Value) (x : Str) (st : Stmt) (ps : List Str) : Prop := ∃ f fd, Fun K x x st f fd ∧ mg x = some (.ref f) ∧ Binds K fd ps []
theorem own1 {own : St} (h : own.length = 1) : ∃ a, own = [a] := by
  match own, h with
  | [a], _ => exact ⟨a, rfl⟩
theorem own2 {own : St} (h : own.length = 2) : ∃ a b, own = [a, b] := by
  match own, h with
  | [a, b], _ => exact ⟨a, b, rfl⟩
theorem own3 {own : St} (h : own.length = 3) : ∃ a b c, own = [a, b, c] := by
  match own, h with
  | [a, b, c], _ => exact ⟨a, b, c, rfl⟩
theorem int_len {i : Int} (h1 : -2 ≤ i) (h2 : i ≤ 20) : (Str.ofString (toString i)).length ≤ 1000 ∧ i.natAbs.log2 < 1920 := by
  have h : i = -2 ∨ i = -1 ∨ i = 0 ∨ i = 1 ∨ i = 2 ∨ i = 3 ∨ i = 4 ∨ i = 5 ∨ i = 6 ∨ i = 7 ∨ i = 8 ∨ i = 9 ∨ i = 10 ∨ i = 11 ∨ i = 12 ∨ i = 13 ∨ i = 14 ∨ i = 15 ∨ i = 16 ∨ i = 17 ∨ i = 18 ∨ i = 19 ∨ i = 20 := by omega
  rcases h with h | h | h | h | h | h | h | h | h | h | h | h | h | h | h | h | h | h | h | h | h | h | h
  all_goals
    rw [h]
    constructor <;> decide +kernel
end L2

set_option Elab.async false
set_option linter.all false
set_option maxRecDepth 100000
set_option maxHeartbeats 4000000
/-! Words for refusals; pieces of data. -/
namespace L2
open PySem PySem.Spec PyProof.Rows PySem.W
/-- what the written part says of a refusal's class C, the j-th of seven -/
structure WordK (K : PySem.W.Frag) (C c0 c1 c2 c3 c4 c5 c6 : Addr) (j : Nat) : Prop where
  z : ExcK K C
  lt : j < 7
  w0 : kitOne K (.ref C) (.ref c0) = some (j == 0)
  w1 : kitOne K (.ref C) (.ref c1) = some (j == 1)
  w2 : kitOne K (.ref C) (.ref c2) = some (j == 2)
  w3 : kitOne K (.ref C) (.ref c3) = some (j == 3)
  w4 : kitOne K (.ref C) (.ref c4) = some (j == 4)
  w5 : kitOne K (.ref C) (.ref c5) = some (j == 5)
  w6 : kitOne K (.ref C) (.ref c6) = some (j == 6)
  ve : kitOne K (.ref C) (.type "ValueError") = some true
/-- clash, no name, no text, no tick, no wave, too long, unlike -/
def wordL (j : Nat) : List Nat := [[99, 108, 97, 115, 104], [110, 111, 32, 110, 97, 109, 101], [110, 111, 32, 116, 101, 120, 116], [110, 111, 32, 116, 105, 99, 107], [110, 111, 32, 119, 97, 118, 101], [116, 111, 111, 32, 108, 111, 110, 103], [117, 110, 108, 105, 107, 101]].getD j []
def spWord (K : PySem.W.Frag) (c0 c1 c2 c3 c4 c5 c6 : Addr) : Sp := fun vs H Q _ => ∃ a C j, vs = [.ref a] ∧ H a = some (excO C a) ∧ WordK K C c0 c1 c2 c3 c4 c5 c6 j ∧ ∀ H', Same H H' → Q (S (wordL j)) H'
def spLaw (K : PySem.W.Frag) : Sp := fun vs H Q _ => ∃ (a : Addr) (ns : List Int), vs = [.ref a] ∧ Scr K H a ns ∧ ∀ H', Q (.bl true) H'
/-- a tuple just made, where a list is being filled at D -/
theorem rep_tupD {K : PySem.W.Frag} {H : Hp} {p D : Addr} {o : HO} {xs : List V} {ds : List Dt} (hD : H D = some o) (hp : H p = none) (r : Reps K (del (upd H p (.tup xs)) D) ds xs) : Rep K (del (upd H p (.tup xs)) D) (.tup ds) (.ref p) :=
  rep_tup (by rw [del_ne (Ne.symm (ne_of_none hD hp))]; exact upd_same) r
theorem pg_tupK {X : Cx} {K : PySem.W.Frag} {es : List Expr} {k : Nat} {t : TGs} {n : Nat} {pos : Pos} (hK : X.K = K) (hc : X.calm = true) (h : PGs X es t)
    (hn : (assignEach es X.env).length = n) (hst : (assignEach es X.env).findIdx? (·.1) = none) : PG X (.Tuple es k pos) (gTup K n t) := by
  subst hK
  exact pg_tup hc h hn hst
theorem boot_ValueError : bootBuiltins "ValueError" = some (.type "ValueError") := by with_unfolding_all rfl
end L2

set_option Elab.async false
set_option linter.all false
set_option maxRecDepth 100000
set_option maxHeartbeats 4000000
/-! Cuts of texts; depth of data. -/
namespace L2
open PySem PySem.Spec PyProof.Rows PySem.W
theorem sIx_mid {n : Nat} {d : Nat} {i : Int} (h0 : 0 ≤ i) (h1 : i ≤ n) : HT.sIx n d (some i) = i.toNat := by
  simp only [HT.sIx]
  try split
  all_goals omega
theorem cut_mid (l : List Nat) {i j : Int} (h0 : 0 ≤ i) (h1 : i ≤ j) (h2 : j ≤ l.length) : cutN l (some i) (some j) = (l.drop i.toNat).take (j.toNat - i.toNat) := by
  unfold cutN
  rw [sIx_mid h0 (by omega), sIx_mid (by omega) h2]
end L2

set_option Elab.async false
set_option linter.all false
set_option maxRecDepth 100000
set_option maxHeartbeats 4000000
/-! text * number; zip of two lists. -/
namespace L2
open PySem PySem.Spec PyProof.Rows PySem.W
theorem foldl_repS (l : List Nat) : ∀ (k : Nat) (acc : List Nat), List.foldl (fun x1 x2 => x1 ++ x2) acc.toArray (List.replicate k l.toArray) = (acc ++ (List.replicate k l).flatten).toArray
  | 0, acc => by simp
  | k + 1, acc => by
    have e : acc.toArray ++ l.toArray = (acc ++ l).toArray := by simp
    have e2 : (acc ++ l) ++ (List.replicate k l).flatten = acc ++ (List.replicate (k + 1) l).flatten := by
      rw [List.replicate_succ, List.flatten_cons, List.append_assoc]
    rw [← e2, ← foldl_repS l k (acc ++ l), ← e, List.replicate_succ, List.foldl_cons]
section
variable {X : Cx}
def rRepS : R2 := fun x y H Q => ∃ l n, x = S l ∧ y = .int n ∧ -1000 ≤ n ∧ n ≤ 1000 ∧ l.length ≤ 1000 ∧ Q (S (List.replicate n.toNat l).flatten) H
theorem op_repS : OpR X (binaryOp .Mult) rRepS := by
  intro pins s σ H x y v u Q I rx ry ⟨l, n, ex, ey, n0, n1, hl, q⟩
  subst ex ey
  obtain ⟨t, rfl⟩ := rx
  obtain ⟨t', rfl⟩ := ry
  have hlen : (⟨l.toArray⟩ : Str).length = l.length := by simp [Str.length]
  refine P.mul_str ?_ ?_ ?_ ?_
  · rw [decide_eq_false (by omega), decide_eq_false (by omega)]
    rfl
  · intro h1 _
    rw [hlen]
    have : (1000 : Int) ≤ (2 ^ 63 - 1) / n := by
      rw [Int.le_ediv_iff_mul_le (by omega)]
      omega
    omega
  · intro h1 _
    rw [hlen]
    have h2 : l.length * n.toNat ≤ 1000 * 1000 := Nat.mul_le_mul hl (by omega)
    unfold Builtin.Str.tooLong
    exact decide_eq_false (by have : sizeLine = 2 ^ 24 := rfl; omega)
  · by_cases h1 : n < 1
    · rw [if_pos h1]
      refine ⟨by decide, S (List.replicate n.toNat l).flatten, H, I.tok _, ⟨s.toks, ?_⟩, q⟩
      have : n.toNat = 0 := by omega
      rw [this]
      rfl
    · rw [if_neg h1]
      by_cases h2 : (n == 1 || (⟨l.toArray⟩ : Str).length == 0) = true
      · rw [if_pos h2]
        refine ⟨S (List.replicate n.toNat l).flatten, H, I, ⟨t, ?_⟩, q⟩
        have e : (List.replicate n.toNat l).flatten = l := by
          rw [hlen] at h2
          simp only [Bool.or_eq_true, beq_iff_eq] at h2
          rcases h2 with h2 | h2
          · subst h2; simp
          · have : l = [] := List.length_eq_zero_iff.mp h2
            subst this; simp
        rw [e]
      · rw [if_neg h2]
        have e : (⟨(List.replicate n.toNat l.toArray).foldl (· ++ ·) #[]⟩ : Str) = ⟨(List.replicate n.toNat l).flatten.toArray⟩ := by
          have := foldl_repS l n.toNat []
          simp only [List.nil_append] at this
          exact congrArg Str.mk this
        show _ ∧ _
        rw [e]
        refine ⟨?_, S (List.replicate n.toNat l).flatten, H, I.tok _, ⟨_, rfl⟩, q⟩
        show (List.replicate n.toNat l).flatten.toArray.size ≤ sizeLine
        have h3 : n.toNat * l.length ≤ 1000 * 1000 := Nat.mul_le_mul (by omega) hl
        have : sizeLine = 2 ^ 24 := rfl
        simp
        omega
end
/-! ### zip of two lists -/
theorem zipApart_nat {n l1 l2 : Nat} (h1 : l1 < n) (h2 : l2 < n) : ZipApart (n + 4) (n + 2) (n + 3) n (n + 1) l1 l2 := by
  constructor <;> intro e <;> exact absurd (show (_ : Nat) = _ from e) (by omega)
def Itz (K : PySem.W.Frag) (a b : Addr) : It :=
  ⟨fun i H => ∃ xs ys, SqL K H a xs ∧ SqL K H b ys ∧ i < min xs.length ys.length,
   fun i H x H' => ∃ T u v, x = .ref T ∧ H T = none ∧ H' = upd H T (.tup [u, v]) ∧ (∀ xs, SqL K H a xs → xs[i]? = some u) ∧ ∀ ys, SqL K H b ys → ys[i]? = some v,
   fun i H => ∃ xs ys, SqL K H a xs ∧ SqL K H b ys ∧ i = min xs.length ys.length⟩
section
variable {X : Cx} {pins : List (Addr × Obj)} {σ : St} {H : Hp} {s : Shared}
/-- records of ours have turned, a tuple is laid -/
theorem Inv.turnedT {ch : List Addr} {h' : Heap} {t' : Nat} {T : Addr} {o : HO} (I : Inv X pins σ H s) (hf : ∀ b ∈ ch, FpOk X pins H b) (k : ∀ b u, b ∉ ch → s.heap.get? b = some u → h'.get? b = some u) (hT : s.heap.objs.size ≤ T) (new : ObjOk X.prog X.w (upd H T o) h' T o) :
    Inv X pins σ (upd H T o) { s with heap := h', toks := t' } := by
  have hn : H T = none := I.hok.fresh hT
  have nT : ∀ b u, s.heap.get? b = some u → b ≠ T := fun b u e z => absurd (Heap.lt_size e) (by rw [z]; exact Nat.not_lt.mpr hT)
  have nit : ∀ b u, H b = some u → b ∉ ch := fun b u e z => by rw [(hf b z).1] at e; cases e
  have up : ∀ b u, H b = some u → upd H T o b = some u := fun b u e => by rw [upd_ne (ne_of_none e hn)]; exact e
  refine I.step (g' := s.gens) (d' := s.drawn) (ch := ch) (fun b hb => ?_) (fun b u _ _ hc e _ => k b u hc e) (fun b u _ _ hc e _ => ⟨u.slots, k b u hc e⟩) (fun b u _ e n => by rw [upd_ne (nT b u e)]; exact n)
    (fun b u hc e => ⟨u, k b u hc e⟩) (fun b xs e => up b _ e) (fun b _ _ e => up b _ e) (fun b ps e => ⟨#[], by rw [up b _ e]; simp⟩) (fun m hm => ?_) (fun b u e => ?_) I.bare
  · obtain ⟨_, f1, _, f3, f4, f5⟩ := hf b hb
    exact ⟨f3, f1, f4, f5⟩
  · obtain ⟨u, es, ep, ho, r⟩ := hm
    exact ⟨u, es, ep, k _ u (fun z => (hf _ z).2.1 rfl) ho, r⟩
  · by_cases hb : b = T
    · subst hb
      rw [upd_same] at e
      cases e
      exact new
    · rw [upd_ne hb] at e
      refine (I.hok b u e).stay (fun c v hc q => k c v ?_ q) (fun c q => up c _ q) fun c _ q => up c _ q
      rcases hc with z | z
      · rw [z]; exact nit b u e
      · exact nit c _ z
theorem Inv.turnedL {ch : List Addr} {h' : Heap} {t' : Nat} (I : Inv X pins σ H s) (hf : ∀ b ∈ ch, FpOk X pins H b) (k : ∀ b u, b ∉ ch → s.heap.get? b = some u → h'.get? b = some u) :
    Inv X pins σ H { s with heap := h', toks := t' } := by
  have nit : ∀ b u, H b = some u → b ∉ ch := fun b u e z => by rw [(hf b z).1] at e; cases e
  refine I.step (g' := s.gens) (d' := s.drawn) (ch := ch) (fun b hb => ?_) (fun b u _ _ hc e _ => k b u hc e) (fun b u _ _ hc e _ => ⟨u.slots, k b u hc e⟩) (fun b u _ e n => n)
    (fun b u hc e => ⟨u, k b u hc e⟩) (fun b xs e => e) (fun b _ _ e => e) (fun b ps e => ⟨#[], by rw [e]; simp⟩) (fun m hm => ?_) (fun b u e => ?_) I.bare
  · obtain ⟨_, f1, _, f3, f4, f5⟩ := hf b hb
    exact ⟨f3, f1, f4, f5⟩
  · obtain ⟨u, es, ep, ho, r⟩ := hm
    exact ⟨u, es, ep, k _ u (fun z => (hf _ z).2.1 rfl) ho, r⟩
  · refine (I.hok b u e).stay (fun c v hc q => k c v ?_ q) (fun c q => q) fun c _ q => q
    rcases hc with z | z
    · rw [z]; exact nit b u e
    · exact nit c _ z
end
theorem turn_zip {P : Program} {w : World} {K : PySem.W.Frag} {elts : List Expr} {kk : Nat} {tpos : Pos} {z TI TO i1 i2 l1 l2 : Addr} (D : ZipApart z TI TO i1 i2 l1 l2) :
    Turn P w K (.Tuple elts kk tpos) (Itz K l1 l2) [z, TI, TO, i1, i2] z (fun i h => IsZip h z TI TO .none ∧ IsPair h TI (.ref i1) (.ref i2) ∧ (∃ a b, IsPair h TO a b) ∧ h.IsListIter i1 l1 i ∧ h.IsListIter i2 l2 i) where
  mem := by simp
  obj := fun i h st b hb => by
    obtain ⟨hz, hTI, ⟨a, b', hTO⟩, ⟨o1, e1, c1, d1⟩, ⟨o2, e2, c2, d2⟩⟩ := st
    simp only [List.mem_cons, List.not_mem_nil, or_false] at hb
    rcases hb with rfl | rfl | rfl | rfl | rfl
    · exact ⟨_, hz, fun v z => nomatch z⟩
    · exact ⟨_, hTI, fun v z => nomatch z⟩
    · exact ⟨_, hTO, fun v z => nomatch z⟩
    · exact ⟨_, e1, fun v z => by rw [d1] at z; cases z⟩
    · exact ⟨_, e2, fun v z => by rw [d2] at z; cases z⟩
  keep := fun i h h' st k => by
    obtain ⟨hz, hTI, ⟨a, b', hTO⟩, h1, h2⟩ := st
    exact ⟨k z (by simp) _ hz, k TI (by simp) _ hTI, ⟨a, b', k TO (by simp) _ hTO⟩, h1.at fun o e => k i1 (by simp) o e, h2.at fun o e => k i2 (by simp) o e⟩
  item := by
    intro X hP hw hK hc i pins s σ H E I hf st hg
    subst hP hw hK
    obtain ⟨xs, ys, hq1, hq2, hi⟩ := hg
    obtain ⟨us, rv1, p1, _⟩ := I.list hq1
    obtain ⟨vs, rv2, p2, _⟩ := I.list hq2
    have hl1 := rv1.length
    have hl2 := rv2.length
    have WW := WalksT.zip2 (prog := X.prog) (w := X.w) (I.ok.hd hc) z TI TO i1 i2 l1 l2 D us.toArray vs.toArray
    obtain ⟨hz, hTI, hTO, h1, h2⟩ := st
    refine WW.item i s _ E (by simp; omega) ⟨hz, hTI, hTO, h1, h2, p1.isList, p2.isList⟩ fun T vals h' tk hPt hT hTup hMid kk => ?_
    refine ⟨_, rfl, WW.go elts _ tpos i T _ _ E hMid fun h'' st'' kk2 => ?_⟩
    obtain ⟨u, v, hu, hv, rfl⟩ := hPt
    have hx : i < xs.length := by omega
    have hy : i < ys.length := by omega
    obtain ⟨u', hu', ru⟩ := rv1.get (x := xs[i]) (i := i) (by simp [hx])
    obtain ⟨v', hv', rv⟩ := rv2.get (x := ys[i]) (i := i) (by simp [hy])
    have eu : u = u' := by
      have : us[i]? = some u := by simpa using hu
      rw [hu'] at this
      exact (Option.some.inj this).symm
    have ev : v = v' := by
      have : vs[i]? = some v := by simpa using hv
      rw [hv'] at this
      exact (Option.some.inj this).symm
    subst eu ev
    have kAll : ∀ b o, b ∉ [z, TO, i1, i2] → s.heap.get? b = some o → h''.get? b = some o := fun b o hb e => kk2 b o hb (kk b o hb e)
    have hTap := WW.apart i T _ hMid
    obtain ⟨oT, eT, rT⟩ := hTup
    have I2 : Inv X pins σ (upd H T (.tup [xs[i], ys[i]])) { s with heap := h'', toks := tk } :=
      I.turnedT (ch := [z, TO, i1, i2]) (fun b hb => hf b (by simp only [List.mem_cons, List.not_mem_nil, or_false] at hb ⊢; rcases hb with h | h | h | h <;> simp [h])) kAll hT
        ⟨by show 2 ≤ sizeLine; decide, [u, v], .cons ru (.cons rv .nil), ⟨oT, kk2 T oT hTap eT, rT⟩⟩
    obtain ⟨z1, z2, z3, z4, z5, _, _⟩ := st''
    refine ⟨.ref T, _, I2, rfl, ⟨T, xs[i], ys[i], rfl, I.hok.fresh hT, rfl, fun xs' h => by rw [I.list_inj h hq1]; simp [hx], fun ys' h => by rw [I.list_inj h hq2]; simp [hy]⟩, ⟨z1, z2, z3, z4, z5⟩, fun b hb => ?_⟩
    have hb0 := (hf b hb).1
    have bne : b ≠ T := by
      rintro rfl
      have st2 : ∃ o, s.heap.get? b = some o := by
        obtain ⟨a, b', hTO'⟩ := hTO
        obtain ⟨o1, e1, _⟩ := h1
        obtain ⟨o2, e2, _⟩ := h2
        simp only [List.mem_cons, List.not_mem_nil, or_false] at hb
        rcases hb with h | h | h | h | h
        · rw [h]; exact ⟨_, hz⟩
        · rw [h]; exact ⟨_, hTI⟩
        · rw [h]; exact ⟨_, hTO'⟩
        · rw [h]; exact ⟨_, e1⟩
        · rw [h]; exact ⟨_, e2⟩
      obtain ⟨o, e⟩ := st2
      exact absurd (Heap.lt_size e) (Nat.not_lt.mpr hT)
    rw [upd_ne bne]
    exact hb0
  done := by
    intro X hP hw hK hc i pins s σ H E I hf st hg
    subst hP hw hK
    obtain ⟨xs, ys, hq1, hq2, hi⟩ := hg
    obtain ⟨us, rv1, p1, _⟩ := I.list hq1
    obtain ⟨vs, rv2, p2, _⟩ := I.list hq2
    have hl1 := rv1.length
    have hl2 := rv2.length
    have WW := WalksT.zip2 (prog := X.prog) (w := X.w) (I.ok.hd hc) z TI TO i1 i2 l1 l2 D us.toArray vs.toArray
    obtain ⟨hz, hTI, hTO, h1, h2⟩ := st
    have ei : i = min us.toArray.size vs.toArray.size := by simp; omega
    rw [ei] at h1 h2
    exact WW.done s _ E ⟨hz, hTI, hTO, h1, h2, p1.isList, p2.isList⟩ fun h' tk kk => ⟨rfl, I.turnedL (ch := [z, TO, i1, i2]) (fun b hb => hf b (by simp only [List.mem_cons, List.not_mem_nil, or_false] at hb ⊢; rcases hb with h | h | h | h <;> simp [h])) kk⟩
  self := fun _ _ _ _ _ st h => wpAny_pyIter_zip st.1 h
section
variable {X : Cx}
def iZip (K : PySem.W.Frag) (ta : TA) : TI := fun σ H R => ta σ H fun vs H1 => ∃ a b xs ys, vs = [.ref a, .ref b] ∧ SqL K H1 a xs ∧ SqL K H1 b ys ∧ R (Itz K a b) H1
theorem pi_zip {elts : List Expr} {kk : Nat} {tpos : Pos} {a b : Expr} {ta : TA} {p pos : Pos} (hg : Gl X "zip") (hm : X.mg "zip" = none) (ha : PA X [a, b] ta) (hs : starEach [a, b] X.env = [(false, eval a X.env), (false, eval b X.env)] := by rfl) (hs2 : starEach [b] X.env = [(false, eval b X.env)] := by rfl) :
    PI X (.Tuple elts kk tpos) (.Call (.Name "zip" p) [a, b] [] pos) (iZip X.K ta) := by
  intro pins s σ H R I h
  refine Call_ (ld_blt I hg hm boot_zip (PyProof.Rows.callWith_type1 (thn (ha pos pins s σ H _ I h) fun us s1 ⟨vs, H1, I1, r1, q1⟩ => ?_) (by rw [hs, hs2]) (by rw [hs2]; rfl)))
  obtain ⟨l1, l2, xs, ys, e, hq1, hq2, q⟩ := q1
  subst e
  cases r1 with
  | cons r rr =>
    cases rr with
    | cons r' rr =>
      cases rr
      cases r
      cases r'
      obtain ⟨us, rv1, p1, _⟩ := I1.list hq1
      obtain ⟨vs, rv2, p2, _⟩ := I1.list hq2
      have b1 : l1 < s1.heap.objs.size := by obtain ⟨o, e, _⟩ := p1.isList; exact Heap.lt_size e
      have b2 : l2 < s1.heap.objs.size := by obtain ⟨o, e, _⟩ := p2.isList; exact Heap.lt_size e
      refine call_zip_2 p1.isList p2.isList fun h' hz hTI hTO h1 h2 hsz kk => ?_
      refine wpAny_pyIter_zip hz ?_
      have D : ZipApart (s1.heap.objs.size + 4) (s1.heap.objs.size + 2) (s1.heap.objs.size + 3) s1.heap.objs.size (s1.heap.objs.size + 1) l1 l2 := zipApart_nat b1 b2
      refine ⟨s1.heap.objs.size + 4, [s1.heap.objs.size + 4, s1.heap.objs.size + 2, s1.heap.objs.size + 3, s1.heap.objs.size, s1.heap.objs.size + 1], _, _, H1, rfl, I1.kept (t' := s1.toks) kk, turn_zip D, ⟨hz, hTI, ⟨_, _, hTO⟩, h1, h2⟩, fun b hb => ?_, q⟩
      have hb' : s1.heap.objs.size ≤ b := by
        simp only [List.mem_cons, List.not_mem_nil, or_false] at hb
        rcases hb with h | h | h | h | h <;> (rw [h]; first | exact Nat.le_refl _ | exact Nat.le_add_right _ _)
      exact I1.fpOk hb' (I1.hok.fresh hb')
end
end L2

set_option Elab.async false
set_option linter.all false
set_option maxRecDepth 100000
set_option maxHeartbeats 4000000
/-! enumerate of a list, of a text. -/
namespace L2
open PySem PySem.Spec PyProof.Rows PySem.W
/-- pairs of a number and an item -/
def Ite (K : PySem.W.Frag) (a : Addr) : It :=
  ⟨fun i H => ∃ xs, SqL K H a xs ∧ i < xs.length,
   fun i H x H' => ∃ T v, x = .ref T ∧ H T = none ∧ H' = upd H T (.tup [.int (i : Nat), v]) ∧ ∀ xs, SqL K H a xs → xs[i]? = some v,
   fun i H => ∃ xs, SqL K H a xs ∧ i = xs.length⟩
theorem turn_enum {P : Program} {w : World} {K : PySem.W.Frag} {elts : List Expr} {kk : Nat} {tpos : Pos} {e it l : Addr} (hei : e ≠ it) (hle : l ≠ e) (hli : l ≠ it) :
    Turn P w K (.Tuple elts kk tpos) (Ite K l) [e, it] e (fun i h => (∃ old, IsEnum h e it i old) ∧ h.IsListIter it l i) where
  mem := by simp
  obj := fun i h st b hb => by
    obtain ⟨⟨old, he⟩, ⟨o1, e1, c1, d1⟩⟩ := st
    simp only [List.mem_cons, List.not_mem_nil, or_false] at hb
    rcases hb with rfl | rfl
    · exact ⟨_, he, fun v z => nomatch z⟩
    · exact ⟨_, e1, fun v z => by rw [d1] at z; cases z⟩
  keep := fun i h h' st k => by
    obtain ⟨⟨old, he⟩, h1⟩ := st
    exact ⟨⟨old, k e (by simp) _ he⟩, h1.at fun o q => k it (by simp) o q⟩
  item := by
    intro X hP hw hK hc i pins s σ H E I hf st hg
    subst hP hw hK
    obtain ⟨xs, hq1, hi⟩ := hg
    obtain ⟨us, rv1, p1, _⟩ := I.list hq1
    have hl1 := rv1.length
    have WW := WalksT.enumerate (prog := X.prog) (w := X.w) (I.ok.hd hc) e it l hei hle hli us.toArray
    obtain ⟨he, h1⟩ := st
    refine WW.item i s _ E (by simp; omega) ⟨he, h1, p1.isList⟩ fun T vals h' tk hPt hT hTup hMid kk => ?_
    refine ⟨_, rfl, WW.go elts _ tpos i T _ _ E hMid fun h'' st'' kk2 => ?_⟩
    obtain ⟨t, u, hu, rfl⟩ := hPt
    obtain ⟨u', hu', ru⟩ := rv1.get (x := xs[i]) (i := i) (by simp [hi])
    have eu : u = u' := by
      have : us[i]? = some u := by simpa using hu
      rw [hu'] at this
      exact (Option.some.inj this).symm
    subst eu
    have kAll : ∀ b o, b ∉ [e, it] → s.heap.get? b = some o → h''.get? b = some o := fun b o hb q => kk2 b o hb (kk b o hb q)
    have hTap := WW.apart i T _ hMid
    obtain ⟨oT, eT, rT⟩ := hTup
    have I2 : Inv X pins σ (upd H T (.tup [.int (i : Nat), xs[i]])) { s with heap := h'', toks := tk } :=
      I.turnedT (ch := [e, it]) hf kAll hT ⟨by show 2 ≤ sizeLine; decide, [.int i t, u], .cons ⟨t, rfl⟩ (.cons ru .nil), ⟨oT, kk2 T oT hTap eT, rT⟩⟩
    obtain ⟨z1, z2, _⟩ := st''
    refine ⟨.ref T, _, I2, rfl, ⟨T, xs[i], rfl, I.hok.fresh hT, rfl, fun xs' h => by rw [I.list_inj h hq1]; simp [hi]⟩, ⟨z1, z2⟩, fun b hb => ?_⟩
    have bne : b ≠ T := by
      rintro rfl
      have st2 : ∃ o, s.heap.get? b = some o := by
        obtain ⟨old, he⟩ := he
        obtain ⟨o1, e1, _⟩ := h1
        simp only [List.mem_cons, List.not_mem_nil, or_false] at hb
        rcases hb with h | h
        · rw [h]; exact ⟨_, he⟩
        · rw [h]; exact ⟨_, e1⟩
      obtain ⟨o, q⟩ := st2
      exact absurd (Heap.lt_size q) (Nat.not_lt.mpr hT)
    rw [upd_ne bne]
    exact (hf b hb).1
  done := by
    intro X hP hw hK hc i pins s σ H E I hf st hg
    subst hP hw hK
    obtain ⟨xs, hq1, hi⟩ := hg
    obtain ⟨us, rv1, p1, _⟩ := I.list hq1
    have hl1 := rv1.length
    have WW := WalksT.enumerate (prog := X.prog) (w := X.w) (I.ok.hd hc) e it l hei hle hli us.toArray
    have ei : i = us.toArray.size := by simp; omega
    rw [ei] at st
    exact WW.done s _ E ⟨st.1, st.2, p1.isList⟩ fun h' tk kk => ⟨rfl, I.turnedL (ch := [e, it]) hf kk⟩
  self := fun _ _ _ _ _ st h => by
    obtain ⟨⟨old, he⟩, _⟩ := st
    exact wpAny_pyIter_enum he h
section
variable {X : Cx}
theorem ne_nat {n l : Nat} (h : l < n) : l ≠ n + 1 ∧ l ≠ n ∧ n + 1 ≠ n := ⟨by omega, by omega, by omega⟩
def iEnum (K : PySem.W.Frag) (ta : TA) : TI := fun σ H R => ta σ H fun vs H1 => ∃ a xs, vs = [.ref a] ∧ SqL K H1 a xs ∧ R (Ite K a) H1
theorem pi_enum {elts : List Expr} {kk : Nat} {tpos : Pos} {a : Expr} {ta : TA} {p pos : Pos} (hg : Gl X "enumerate") (hm : X.mg "enumerate" = none) (ha : PA X [a] ta) (hs : starEach [a] X.env = [(false, eval a X.env)] := by rfl) :
    PI X (.Tuple elts kk tpos) (.Call (.Name "enumerate" p) [a] [] pos) (iEnum X.K ta) := by
  intro pins s σ H R I h
  refine Call_ (ld_blt I hg hm boot_enumerate (PyProof.Rows.callWith_type1 (thn (ha pos pins s σ H _ I h) fun us s1 ⟨vs, H1, I1, r1, q1⟩ => ?_) hs rfl))
  obtain ⟨l, xs, e, hq1, q⟩ := q1
  subst e
  cases r1 with
  | cons r rr =>
    cases rr
    cases r
    obtain ⟨us, rv1, p1, _⟩ := I1.list hq1
    have b1 : l < s1.heap.objs.size := by obtain ⟨o, e, _⟩ := p1.isList; exact Heap.lt_size e
    obtain ⟨n1, n2, n3⟩ := ne_nat b1
    refine call_enumerate_list p1.isList fun h' he h1 hsz kk => ?_
    refine wpAny_pyIter_enum he ?_
    refine ⟨s1.heap.objs.size + 1, [s1.heap.objs.size + 1, s1.heap.objs.size], _, _, H1, rfl, I1.kept (t' := s1.toks) kk, turn_enum n3 n1 n2, ⟨⟨_, he⟩, h1⟩, fun b hb => ?_, q⟩
    have hb' : s1.heap.objs.size ≤ b := by
      simp only [List.mem_cons, List.not_mem_nil, or_false] at hb
      rcases hb with h | h <;> (rw [h]; first | exact Nat.le_refl _ | exact Nat.le_add_right _ _)
    exact I1.fpOk hb' (I1.hok.fresh hb')
end
end L2

set_option Elab.async false
set_option linter.all false
set_option maxRecDepth 100000
set_option maxHeartbeats 4000000
namespace K03
open PySem L2 PyProof.Rows PySem.W
local macro_rules
  | `(tactic| exists wk) => `(tactic| repeat (first | refine And.intro rfl ?_ | apply Exists.intro | refine And.intro (by assumption) ?_ | refine And.intro (Scr.mono (by assumption) (by assumption)) ?_ | refine And.intro (by decide) ?_ | refine And.intro (by omega) ?_))
def top (i : Nat) : Stmt := PySem.Challenge.pw_tickrows_k03_whole_spans.main.body.getD i (.Pass ⟨0, 0, 0, 0⟩)
abbrev s_law_cell : Stmt := top 17
abbrev s_law_pick : Stmt := top 18
abbrev s_law_wave : Stmt := top 19
abbrev s_refuse_too_long : Stmt := top 11
abbrev s_not_too_long : Stmt := top 12
abbrev s_changes : Stmt := top 13
abbrev s_spans : Stmt := top 14
abbrev s_of_spans : Stmt := top 15
abbrev s_law_word : Stmt := top 22
abbrev s_law_made : Stmt := top 23
abbrev s_law : Stmt := top 24
structure Tx (K : PySem.W.Frag) (mg : Str → Option Value) (cTickError cNoTick cUnlike cClash cTooLong cNoWave cNoName cNoText : Addr) : Prop where
  len : mg "len" = none
  range : mg "range" = none
  isinstance : mg "isinstance" = none
  ValueError : mg "ValueError" = none
  zip : mg "zip" = none
  enumerate : mg "enumerate" = none
  min : mg "min" = none
  TickError : mg "TickError" = some (.ref cTickError)
  NoTick : mg "NoTick" = some (.ref cNoTick)
  Unlike : mg "Unlike" = some (.ref cUnlike)
  Clash : mg "Clash" = some (.ref cClash)
  TooLong : mg "TooLong" = some (.ref cTooLong)
  NoWave : mg "NoWave" = some (.ref cNoWave)
  NoName : mg "NoName" = some (.ref cNoName)
  NoText : mg "NoText" = some (.ref cNoText)
  MOST_TICKS : ∃ t, mg "MOST_TICKS" = some (.int 12 t)
  f__law_cell : FnT K mg "_law_cell" s_law_cell ["_law_script", "_law_k"]
  f__law_pick : FnT K mg "_law_pick" s_law_pick ["_law_script", "_law_k", "_law_many"]
  f__law_wave : FnT K mg "_law_wave" s_law_wave ["_law_script", "_law_at", "_law_many", "_law_signs"]
  f_refuse_too_long : FnT K mg "refuse_too_long" s_refuse_too_long ["length"]
  f_not_too_long : FnT K mg "not_too_long" s_not_too_long ["signs"]
  f_changes : FnT K mg "changes" s_changes ["wave"]
  f_spans : FnT K mg "spans" s_spans ["wave"]
  f_of_spans : FnT K mg "of_spans" s_of_spans ["rows"]
  f__law_word : FnT K mg "_law_word" s_law_word ["_law_kept"]
  f__law_made : FnT K mg "_law_made" s_law_made ["_law_rows"]
  f_law : FnT K mg "law" s_law ["_law_script"]
  x_TooLong : excIn K cTooLong veMro "ValueError.__new__" = true
  e1_TooLong : isClsIn K cTooLong = true
  e2_TooLong : findIn K (.ref cTooLong) "__getattribute__" = some (some (.builtin "BaseException.__getattribute__"))
  e3_TooLong : findIn K (.ref cTooLong) "__getattr__" = some none
  e4_TooLong : findIn K (.ref cTooLong) "__class__" = some (some (.builtin "object.__class__"))
  e5_TooLong : specialIn K (.builtin "object.__class__") "__get__" = some (some (.builtin "getset_descriptor.__get__"))
  e6_TooLong : takesIn K (.builtin "object.__class__") = some true
  e7_TooLong : mroIn K cTooLong (.type "object") = some true
  e8_TooLong : mroIn K cTooLong (.type "BaseException") = some true
  m_TooLong : exmOne K (.ref cTooLong) (.ref cTickError) = some true
  w0_TooLong : kitOne K (.ref cTooLong) (.ref cClash) = some false
  w1_TooLong : kitOne K (.ref cTooLong) (.ref cNoName) = some false
  w2_TooLong : kitOne K (.ref cTooLong) (.ref cNoText) = some false
  w3_TooLong : kitOne K (.ref cTooLong) (.ref cNoTick) = some false
  w4_TooLong : kitOne K (.ref cTooLong) (.ref cNoWave) = some false
  w5_TooLong : kitOne K (.ref cTooLong) (.ref cTooLong) = some true
  w6_TooLong : kitOne K (.ref cTooLong) (.ref cUnlike) = some false
  v_TooLong : kitOne K (.ref cTooLong) (.type "ValueError") = some true
section
variable {P : Program} {w : World} {K : PySem.W.Frag} {mg : Str → Option Value} {base : Heap} {cTickError cNoTick cUnlike cClash cTooLong cNoWave cNoName cNoText : Addr}
theorem sc_law_cell : FnScope ["_law_script", "_law_k"] ["_law_script", "_law_k"] (defScope s_law_cell) := ⟨rfl, rfl, rfl, by decide +kernel, rfl, by decide +kernel, by decide +kernel⟩
theorem ok__law_cell (T : Tx K mg cTickError cNoTick cUnlike cClash cTooLong cNoWave cNoName cNoText) : Cal P w K mg base CX0 1 "_law_cell" ["_law_script", "_law_k"] (spCell K) := by
  obtain ⟨f, fd, F, hm, hb⟩ := T.f__law_cell
  have SC := sc_law_cell
  have XTooLong := T.x_TooLong
  refine ⟨f, fd, ?_, hm, F.kp, hb⟩
  refine F.ok SC (fun vs H Q E h => ?_) (fun cdv A outer s H vs Q E hr h => ?_)
  · obtain ⟨a, ns, k, rfl, _⟩ := h
    rfl
  · obtain ⟨a, ns, k, rfl, hS, hk, q⟩ := h
    have s0 : Same H H := .refl _
    refine ⟨_, (pss_cons (ps_if (pt_cmpR op_lt (pv 1) (pe_callB call_len_seq (by rfl) T.len PySem.boot_len (@pax _ _ _ _ _ rfl (pv 0) pa_nil)) (nomark _)) (pss_one (ps_ret (pe_ix ix_list (pv 0) (pv 1) (fun _ _ => rfl)))) pss_nil)
      (pss_cons (ps_if (pt_cmpR (op_eqD (hu50 hr)) (pv 0) (pe_lst pa_nil) (nomark _)) (pss_one (ps_ret pe_int)) pss_nil)
      (pss_one (ps_ret (pe_op op_add (pe_op op_mul (pe_ix ix_list (pv 0) (pe_op op_mod (pv 1) (pe_callB call_len_seq (by rfl) T.len PySem.boot_len (@pax _ _ _ _ _ rfl (pv 0) pa_nil))) (fun _ _ => rfl)) pe_int) (pv 1)))))), ?_⟩
    have el : (ns.map V.int).length = ns.length := by simp
    refine ⟨_, rfl, _, rfl, a, _, rfl, .inl hS.1, _, _, rfl, rfl, _, rfl, ?_⟩
    rw [el]
    refine ite2 (fun h1 => ?_) (fun h1 => ?_)
    · have h1' : k < ns.length := by simpa using h1
      exact ⟨_, rfl, _, rfl, a, _, k, _, rfl, rfl, hS.1, cell_lt hk h1', q _ (.refl _)⟩
    · have h1' : ¬ k < ns.length := by simpa using h1
      refine ⟨_, rfl, by show 0 ≤ sizeLine; omega, fun p hp => ⟨_, _, rep_script ((Same.upd hp).seq hS.1), rep_lst upd_same .nil, by simp [dep, deps_ints], _, rfl, ?_⟩⟩
      rw [eqD_nil]
      refine ite2 (fun h2 => ?_) (fun h2 => ?_)
      · have h2' : ns = [] := by simpa using h2
        have e : cellZ ns k = 0 := by unfold cellZ; rw [if_neg h1', if_pos h2']
        rw [← e]
        exact q _ (.upd hp)
      · have h2' : ns ≠ [] := by simpa using h2
        have hpos : 0 < (ns.length : Int) := by have := List.length_pos_iff.mpr h2'; omega
        have m0 : 0 ≤ k % (ns.length : Int) := Int.emod_nonneg _ (by omega)
        have m1 : k % (ns.length : Int) < ns.length := Int.emod_lt_of_pos _ hpos
        refine ⟨_, rfl, _, rfl, _, rfl, a, _, rfl, .inl ((Same.upd hp).seq hS.1), _, _, rfl, rfl, ?_, ?_⟩
        · show 0 < ((ns.map V.int).length : Int)
          rw [el]
          exact hpos
        · rw [el]
          refine ⟨a, _, _, _, rfl, rfl, (Same.upd hp).seq hS.1, atI_ints m0 m1, _, _, rfl, rfl, .inr (by decide), _, rfl, _, _, rfl, rfl, ?_⟩
          have e : cellZ ns k = ns.getD (k % (ns.length : Int)).toNat 0 * 31 + k := by unfold cellZ; rw [if_neg h1', if_neg h2']
          show Q (.int (ns.getD (k % (ns.length : Int)).toNat 0 * 31 + k)) _
          rw [← e]
          exact q _ (.upd hp)
theorem sc_law_pick : FnScope ["_law_script", "_law_k", "_law_many", "_law_drawn"] ["_law_script", "_law_k", "_law_many"] (defScope s_law_pick) := ⟨rfl, rfl, rfl, by decide +kernel, rfl, by decide +kernel, by decide +kernel⟩
theorem ok__law_pick (T : Tx K mg cTickError cNoTick cUnlike cClash cTooLong cNoWave cNoName cNoText) : Cal P w K mg base CX0 2 "_law_pick" ["_law_script", "_law_k", "_law_many"] (spPick K) := by
  obtain ⟨f, fd, F, hm, hb⟩ := T.f__law_pick
  have SC := sc_law_pick
  have CL_cell := ok__law_cell (P := P) (w := w) (base := base) T
  have XTooLong := T.x_TooLong
  refine ⟨f, fd, ?_, hm, F.kp, hb⟩
  refine F.ok SC (fun vs H Q E h => ?_) (fun cdv A outer s H vs Q E hr h => ?_)
  · obtain ⟨a, ns, k, many, rfl, _⟩ := h
    rfl
  · obtain ⟨a, ns, k, many, rfl, hS, hk, hmy, q⟩ := h
    have s0 : Same H H := .refl _
    refine ⟨_, (pss_cons (ps_set (i := 3) SC.nd rfl (Or.inl rfl) (pe_op op_mod (pe_op op_mul (pe_op op_add (pe_cal CL_cell (hr.mono (by decide)) pass0 (@pax _ _ _ _ _ rfl (pv 0) (@pax _ _ _ _ _ rfl (pv 1) pa_nil))) (pe_op op_mul pe_int (pe_op op_add (pv 1) pe_int))) pe_int) pe_int))
      (pss_one (ps_ret (pe_op op_mod (pe_op op_mod (pe_op op_add (pe_op op_mul (pv 3) (pv 3)) (pe_op op_fdiv (pv 3) pe_int)) pe_int) (pv 2))))), ?_⟩
    refine ⟨_, rfl, _, rfl, a, ns, k, rfl, hS, hk, fun H1 s1 => ?_⟩
    refine ⟨_, rfl, _, _, rfl, rfl, _, _, rfl, rfl, .inl (by decide), _, _, rfl, rfl, _, _, rfl, rfl, .inr (by decide), _, _, rfl, rfl, (by show (0 : Int) < 2147483399; decide), ?_⟩
    have d0 := drawnZ_lo ns k
    have d1 := drawnZ_hi ns k
    refine ⟨_, rfl, _, rfl, _, _, rfl, rfl, .inl ⟨?_, ?_⟩, ?_⟩
    · show -(2 ^ 64 : Int) < drawnZ ns k
      omega
    · show drawnZ ns k < (2 ^ 64 : Int)
      omega
    refine ⟨_, rfl, _, _, rfl, rfl, ⟨by decide, by decide⟩, _, _, rfl, rfl, _, _, rfl, rfl, (by show (0 : Int) < 2147483629; decide), _, rfl, _, _, rfl, rfl, hmy, ?_⟩
    exact q _ s1
theorem sc_law_wave : FnScope ["_law_script", "_law_at", "_law_many", "_law_signs", "_law_made_here", "_law_k"] ["_law_script", "_law_at", "_law_many", "_law_signs"] (defScope s_law_wave) := ⟨rfl, rfl, rfl, by decide +kernel, rfl, by decide +kernel, by decide +kernel⟩
theorem ok__law_wave (T : Tx K mg cTickError cNoTick cUnlike cClash cTooLong cNoWave cNoName cNoText) : Cal P w K mg base CX0 3 "_law_wave" ["_law_script", "_law_at", "_law_many", "_law_signs"] (spWave K) := by
  obtain ⟨f, fd, F, hm, hb⟩ := T.f__law_wave
  have SC := sc_law_wave
  have CL_pick := ok__law_pick (P := P) (w := w) (base := base) T
  have XTooLong := T.x_TooLong
  refine ⟨f, fd, ?_, hm, F.kp, hb⟩
  refine F.ok SC (fun vs H Q E h => ?_) (fun cdv A outer s H vs Q E hr h => ?_)
  · obtain ⟨a, ns, k, many, sg, rfl, _⟩ := h
    rfl
  · obtain ⟨a, ns, k, many, sg, rfl, hS, hk, hmy, hm2, hsg, hsl, q⟩ := h
    have s0 : Same H H := .refl _
    refine ⟨_, (pss_cons (ps_set (i := 4) SC.nd rfl (Or.inl rfl) (pe_ix ix_S (pv 3) (pe_cal CL_pick (hr.mono (by decide)) pass0 (@pax _ _ _ _ _ rfl (pv 0) (@pax _ _ _ _ _ rfl (pv 1) (@pax _ _ _ _ _ rfl (pe_callB call_lenS (by rfl) T.len PySem.boot_len (@pax _ _ _ _ _ rfl (pv 3) pa_nil)) pa_nil)))) (fun _ _ => rfl)))
      (pss_cons (ps_for PassesOwn.never rfl (pi_range2 rfl T.range (@pax _ _ _ _ _ rfl pe_int (@pax _ _ _ _ _ rfl (pv 2) pa_nil))) (pg_name (i := 5) SC.nd rfl (Or.inl rfl)) (pss_one (ps_if (pt_cmpR op_eq (pe_cal CL_pick (hr.mono (by decide)) pass0 (@pax _ _ _ _ _ rfl (pv 0) (@pax _ _ _ _ _ rfl (pe_op op_add (pv 1) (pe_op op_mul pe_int (pv 5))) (@pax _ _ _ _ _ rfl pe_int pa_nil)))) pe_int (nomark _)) (pss_one (ps_set (i := 4) SC.nd rfl (Or.inl rfl) (pe_op op_addS (pv 4) (pe_ix ix_S (pv 4) (pe_un un_neg pe_int) (fun _ _ => rfl))))) (pss_one (ps_set (i := 4) SC.nd rfl (Or.inl rfl) (pe_op op_addS (pv 4) (pe_ix ix_S (pv 3) (pe_cal CL_pick (hr.mono (by decide)) pass0 (@pax _ _ _ _ _ rfl (pv 0) (@pax _ _ _ _ _ rfl (pe_op op_add (pe_op op_add (pv 1) (pe_op op_mul pe_int (pv 5))) pe_int) (@pax _ _ _ _ _ rfl (pe_callB call_lenS (by rfl) T.len PySem.boot_len (@pax _ _ _ _ _ rfl (pv 3) pa_nil)) pa_nil)))) (fun _ _ => rfl))))))))
      (pss_one (ps_ret (pv 4))))), ?_⟩
    have hsp : 0 < (sg.length : Int) := by have := List.length_pos_iff.mpr hsg; omega
    have hz : sg.length ≤ sizeLine := big _ (by omega)
    refine ⟨_, rfl, _, rfl, _, rfl, _, rfl, sg, rfl, hz, a, ns, k, _, rfl, hS, hk, hsp, fun H1 s1 => ⟨sg, _, _, rfl, rfl, hz, signZ_at ns k hsg, ?_⟩⟩
    refine ⟨_, rfl, 1, many, rfl, ⟨by decide, by decide, by omega, by omega⟩, for_range (lo := 1) (n := (many - 1).toNat) (fun i σ H2 => ∃ v, σ = [some (.ref a), some (.int k), some (.int many), some (S sg), some (S (waveN ns k sg i)), v] ∧ Same H H2) ⟨none, rfl, s1⟩ ?_ ?_⟩
    · rintro i σ H2 hi ⟨v, rfl, s2⟩
      have wl := waveN_length ns k sg i
      have wne : waveN ns k sg i ≠ [] := by
        intro z
        rw [z] at wl
        simp at wl
      refine ⟨_, rfl, _, rfl, _, rfl, _, _, rfl, rfl, .inl (by decide), _, _, rfl, rfl, a, ns, _, 2, rfl, hS.mono s2, by omega, by decide, fun H3 s3 => ⟨rfl, _, rfl, ?_⟩⟩
      have e0 : k + 2 * (1 + (i : Int)) = k + 2 * ((i : Int) + 1) := by omega
      refine ite2 (fun h1 => ?_) (fun h1 => ?_)
      · have h1' : pickZ ns (k + 2 * (1 + (i : Int))) 2 = 0 := by simpa using h1
        rw [e0] at h1'
        refine ⟨_, rfl, _, rfl, _, rfl, _, _, _, rfl, rfl, big _ (by omega), last_at wne, _, _, rfl, rfl, big _ (by simp; omega), ?_⟩
        refine ⟨some (.int (1 + (i : Int))), ?_, s2.trans s3⟩
        rw [waveN, if_pos h1']
        rfl
      · have h1' : ¬ pickZ ns (k + 2 * (1 + (i : Int))) 2 = 0 := by simpa using h1
        rw [e0] at h1'
        refine ⟨_, rfl, _, rfl, _, rfl, _, rfl, _, rfl, _, _, rfl, rfl, .inl (by decide), _, _, rfl, rfl, _, _, rfl, rfl, _, rfl, sg, rfl, hz, a, ns, _, _, rfl, (hS.mono s2).mono s3, by omega, hsp, fun H4 s4 => ⟨sg, _, _, rfl, rfl, hz, signZ_at ns _ hsg, _, _, rfl, rfl, big _ (by simp; omega), ?_⟩⟩
        refine ⟨some (.int (1 + (i : Int))), ?_, (s2.trans s3).trans s4⟩
        rw [waveN, if_neg h1', e0]
        rfl
    · rintro σ H2 ⟨v, rfl, s2⟩
      exact ⟨_, rfl, q _ s2⟩

def chF (l : List Nat) (i : Nat) : Option Dt := if l.getD (i + 1) 0 ≠ l.getD i 0 then some (.tup [.int (1 + (i : Nat)), .str [l.getD i 0], .str [l.getD (i + 1) 0]]) else none
def chD (l : List Nat) : List Dt := (List.range (l.length - 1)).filterMap (chF l)
def spChanges (K : PySem.W.Frag) : Sp := fun vs H Q _ => ∃ l, vs = [S l] ∧ l.length ≤ 1000 ∧ ∀ D H', Rep K H' (.lst (chD l)) (.ref D) → Same H H' → Q (.ref D) H'
theorem at_lo {l : List Nat} {i : Nat} (h : i < l.length - 1) : atI l (1 + (i : Int) - 1) = some (l.getD i 0) := by
  have e : 1 + (i : Int) - 1 = (i : Nat) := by omega
  have hlt : i < l.length := by omega
  rw [e]
  exact atI_nat (by simp [hlt])
theorem at_hi {l : List Nat} {i : Nat} (h : i < l.length - 1) : atI l (1 + (i : Int)) = some (l.getD (i + 1) 0) := by
  have e : 1 + (i : Int) = (i + 1 : Nat) := by omega
  have hlt : i + 1 < l.length := by omega
  rw [e]
  exact atI_nat (by simp [hlt])
theorem sc_changes : FnScope ["wave"] ["wave"] (defScope s_changes) := ⟨rfl, rfl, rfl, by decide +kernel, rfl, by decide +kernel, by decide +kernel⟩
theorem ok_changes (T : Tx K mg cTickError cNoTick cUnlike cClash cTooLong cNoWave cNoName cNoText) : Cal P w K mg base CX0 1 "changes" ["wave"] (spChanges K) := by
  obtain ⟨f, fd, F, hm, hb⟩ := T.f_changes
  have SC := sc_changes
  have XTooLong := T.x_TooLong
  refine ⟨f, fd, ?_, hm, F.kp, hb⟩
  refine F.ok SC (fun vs H Q E h => ?_) (fun cdv A outer s H vs Q E hr h => ?_)
  · obtain ⟨l, rfl, _⟩ := h
    rfl
  · obtain ⟨l, rfl, hl, q⟩ := h
    have s0 : Same H H := .refl _
    refine ⟨_, (pss_one (ps_ret (pe_comp (N := ["tick", "wave"]) (k := 1) (fr := [0]) rfl ⟨rfl, rfl, rfl, rfl, rfl, rfl⟩ (pi_range2 rfl T.range (@pax _ _ _ _ _ rfl pe_int (@pax _ _ _ _ _ rfl (pe_callB call_lenS (by rfl) T.len PySem.boot_len (@pax _ _ _ _ _ rfl (pv 0) pa_nil)) pa_nil))) (fun _ _ _ _ => (pg_name (i := 0) (show List.Nodup (α := Str) ["tick", "wave"] from by decide +kernel) rfl (Or.inl rfl) (Or.inr rfl))) (fun _ _ _ _ => (pts_one (pt_cmpR op_ne (pe_ix ix_S (pv 1) (pv 0) (fun _ _ => rfl)) (pe_ix ix_S (pv 1) (pe_op op_sub (pv 0) pe_int) (fun _ _ => rfl)) (nomark _)))) (fun _ _ _ _ => (pe_tup (@pax _ _ _ _ _ rfl (pv 0) (@pax _ _ _ _ _ rfl (pe_ix ix_S (pv 1) (pe_op op_sub (pv 0) pe_int) (fun _ _ => rfl)) (@pax _ _ _ _ _ rfl (pe_ix ix_S (pv 1) (pv 0) (fun _ _ => rfl)) pa_nil)))))))), ?_⟩
    have hz : l.length ≤ sizeLine := big _ (by omega)
    refine ⟨_, rfl, l, rfl, hz, 1, (l.length : Int), rfl, ⟨by decide, by decide, by omega, by omega⟩, ?_⟩
    have hn : ((l.length : Int) - 1).toNat = l.length - 1 := by omega
    rw [hn]
    refine comp_range (K := K) 1 (l.length - 1) (chF l) [some (S l)] rfl (by omega) ?_ ?_
    · intro D own ys H2 i hi Kt Kf ho sm hD2 hD1 sy kt kf
      obtain ⟨o, rfl⟩ := own1 ho
      refine ⟨_, rfl, _, rfl, l, _, _, rfl, rfl, hz, at_hi hi, _, rfl, _, rfl, _, _, rfl, rfl, l, _, _, rfl, rfl, hz, at_lo hi, rfl, _, rfl, ?_⟩
      rw [S_dec]
      refine ite2 (fun h1 => ?_) (fun h1 => ?_)
      · have h1' : l.getD (i + 1) 0 ≠ l.getD i 0 := by simpa using h1
        refine ⟨_, rfl, _, rfl, _, rfl, _, _, rfl, rfl, l, _, _, rfl, rfl, hz, at_lo hi, _, rfl, _, rfl, l, _, _, rfl, rfl, hz, at_hi hi, big 3, fun p hp => ?_⟩
        refine kt [some (.int (1 + (i : Int)))] (.ref p) _ _ rfl (.upd hp) (if_pos h1') ?_
        exact rep_tupD hD2 hp (.cons rep_int (.cons rep_str (.cons rep_str .nil)))
      · have h1' : ¬ l.getD (i + 1) 0 ≠ l.getD i 0 := by simpa using h1
        exact kf [some (.int (1 + (i : Int)))] _ rfl (.refl _) (if_neg h1')
    · exact fun D H' r s => q D H' r s

def okLen (l : List Nat) : Prop := 1 ≤ l.length ∧ l.length ≤ 12
def spNTL (cT : Addr) : Sp := fun vs H Q E => ∃ l, vs = [S l] ∧ l.length ≤ 1000 ∧ (okLen l → Q (S l) H) ∧ (¬ okLen l → E (.ref cT) none H)


def spRTL (cT : Addr) : Sp := fun vs H Q E => ∃ n : Int, vs = [.int n] ∧ (1 ≤ n ∧ n ≤ 12 → Q .non H) ∧ (¬ (1 ≤ n ∧ n ≤ 12) → E (.ref cT) none H)

theorem sc_refuse_too_long : FnScope ["length"] ["length"] (defScope s_refuse_too_long) := ⟨rfl, rfl, rfl, by decide +kernel, rfl, by decide +kernel, by decide +kernel⟩
theorem ok_refuse_too_long (T : Tx K mg cTickError cNoTick cUnlike cClash cTooLong cNoWave cNoName cNoText) : Cal P w K mg base (CX1 P w) 1 "refuse_too_long" ["length"] (spRTL cTooLong) := by
  obtain ⟨f, fd, F, hm, hb⟩ := T.f_refuse_too_long
  have SC := sc_refuse_too_long
  have XTooLong := T.x_TooLong
  refine ⟨f, fd, ?_, hm, F.kp, hb⟩
  refine F.okX SC (fun vs H Q E h => ?_) (fun cdv A outer s H vs Q E hr h R => ?_)
  · obtain ⟨n, rfl, _⟩ := h
    rfl
  · obtain ⟨n, rfl, q, x⟩ := h
    have s0 : Same H H := .refl _
    refine ⟨_, (pss_one (ps_if (pt_not (pt_chain op_le op_le pe_int (pv 0) (pe_glob (by rfl) T.MOST_TICKS.choose_spec (v := .int 12) ⟨_, rfl⟩))) (pss_one (ps_raise rfl R (by rfl) T.TooLong XTooLong (pe_fstr3 pe_str (pe_fmtI (pe_glob (by rfl) T.MOST_TICKS.choose_spec (v := .int 12) ⟨_, rfl⟩)) pe_str))) pss_nil)), ?_⟩
    obtain ⟨i1, i2⟩ := int_len (i := 12) (by decide) (by decide)
    refine ⟨_, rfl, _, _, rfl, rfl, _, rfl, ?_⟩
    refine ite2 (fun h1 => ?_) (fun h1 => ?_)
    · have h1' : 1 ≤ n := by simpa using h1
      refine ⟨_, _, rfl, rfl, _, rfl, ?_⟩
      refine ite2 (fun h2 => ?_) (fun h2 => ?_)
      · have h2' : ¬ n ≤ 12 := by simpa using h2
        exact ⟨_, rfl, by decide, _, rfl, i2, _, rfl, i1, _, rfl, by decide, fun _ => x fun z => h2' z.2⟩
      · have h2' : n ≤ 12 := by simpa using h2
        exact q ⟨h1', h2'⟩
    · have h1' : ¬ 1 ≤ n := by simpa using h1
      refine ⟨_, rfl, iteT ?_⟩
      exact ⟨_, rfl, by decide, _, rfl, i2, _, rfl, i1, _, rfl, by decide, fun _ => x fun z => h1' z.1⟩
theorem sc_not_too_long : FnScope ["signs"] ["signs"] (defScope s_not_too_long) := ⟨rfl, rfl, rfl, by decide +kernel, rfl, by decide +kernel, by decide +kernel⟩
theorem ok_not_too_long (T : Tx K mg cTickError cNoTick cUnlike cClash cTooLong cNoWave cNoName cNoText) : Cal P w K mg base (CX1 P w) 2 "not_too_long" ["signs"] (spNTL cTooLong) := by
  obtain ⟨f, fd, F, hm, hb⟩ := T.f_not_too_long
  have SC := sc_not_too_long
  have Crefuse_too_long := ok_refuse_too_long (P := P) (w := w) (base := base) T
  have XTooLong := T.x_TooLong
  refine ⟨f, fd, ?_, hm, F.kp, hb⟩
  refine F.okX SC (fun vs H Q E h => ?_) (fun cdv A outer s H vs Q E hr h R => ?_)
  · obtain ⟨l, rfl, _⟩ := h
    rfl
  · obtain ⟨l, rfl, hl, q, x⟩ := h
    have s0 : Same H H := .refl _
    refine ⟨_, (pss_cons (ps_expr (pe_cal Crefuse_too_long (hr.mono (by decide)) R.pass (@pax _ _ _ _ _ rfl (pe_callB call_lenS (by rfl) T.len PySem.boot_len (@pax _ _ _ _ _ rfl (pv 0) pa_nil)) pa_nil)))
      (pss_one (ps_ret (pv 0)))), ?_⟩
    have hz : l.length ≤ sizeLine := big _ (by omega)
    refine ⟨_, rfl, l, rfl, hz, _, rfl, fun hi => ⟨_, rfl, q ⟨by omega, by omega⟩⟩, fun hi => x fun z => hi ⟨by have := z.1; omega, by have := z.2; omega⟩⟩

def stB (l : List Nat) (i : Nat) : Bool := i == 0 || decide (l.getD i 0 ≠ l.getD (i - 1) 0)
def stL (l : List Nat) : List Nat := (List.range l.length).filter (stB l)
def enL (l : List Nat) : List Nat := (stL l).drop 1 ++ [l.length]
def spF (l : List Nat) (i : Nat) : Option Dt := some (.tup [.int ((stL l).getD i 0 : Nat), .int (((enL l).getD i 0 : Nat) - ((stL l).getD i 0 : Nat)), .str [l.getD ((stL l).getD i 0) 0]])
def spD (l : List Nat) : List Dt := (List.range (stL l).length).filterMap (spF l)
def spSpans (K : PySem.W.Frag) : Sp := fun vs H Q _ => ∃ l, vs = [S l] ∧ 1 ≤ l.length ∧ l.length ≤ 1000 ∧ ∀ D H', Rep K H' (.lst (spD l)) (.ref D) → Same H H' → Q (.ref D) H'
def stF (l : List Nat) (i : Nat) : Option Dt := if stB l i = true then some (.int (0 + (i : Nat))) else none
theorem stF_eq (l : List Nat) : (List.range l.length).filterMap (stF l) = (stL l).map fun i => Dt.int (i : Nat) := by
  unfold stL stF
  have e0 : ∀ i : Nat, (0 : Int) + (i : Int) = (i : Int) := fun i => by omega
  simp only [e0]
  generalize List.range l.length = r
  induction r with
  | nil => rfl
  | cons a r ih =>
    by_cases h : stB l a = true
    · simp [List.filterMap_cons, List.filter_cons, h, ih]
    · simp [List.filterMap_cons, List.filter_cons, h, ih]
theorem reps_nats {K : PySem.W.Frag} {H : Hp} : ∀ {ns : List Nat} {xs : List V}, Reps K H (ns.map fun i => Dt.int (i : Nat)) xs → xs = ns.map fun i => V.int (i : Nat)
  | [], _, h => by simpa only [List.map_nil, Reps] using h
  | n :: ns, _, h => by
    simp only [List.map_cons, Reps, Rep] at h
    obtain ⟨x, r, rfl, rfl, h⟩ := h
    rw [reps_nats h]
    rfl
theorem stL_len (l : List Nat) : (stL l).length ≤ l.length := by
  have := List.length_filter_le (stB l) (List.range l.length)
  simp at this
  exact this
theorem stL_mem {l : List Nat} {i : Nat} (h : i ∈ stL l) : i < l.length := by
  have := (List.mem_filter.mp h).1
  simpa using this
theorem stL_cons {l : List Nat} (h : 1 ≤ l.length) : ∃ r, stL l = 0 :: r := by
  obtain ⟨n, hn⟩ : ∃ n, l.length = n + 1 := ⟨l.length - 1, by omega⟩
  unfold stL
  rw [hn, List.range_succ_eq_map, List.filter_cons, if_pos (by simp [stB])]
  exact ⟨_, rfl⟩
theorem cutV_tail {xs : List V} (h : 1 ≤ xs.length) : cutV xs (some 1) none = xs.drop 1 := by
  unfold cutV
  rw [show HT.sIx xs.length 0 (some 1) = 1 from sIx_mid (n := xs.length) (d := 0) (i := 1) (by decide) (by omega)]
  simp only [HT.sIx]
  exact List.take_of_length_le (by simp)
theorem enL_map (l : List Nat) : ((stL l).map fun i => V.int (i : Nat)).drop 1 ++ [V.int (l.length : Nat)] = (enL l).map fun i => V.int (i : Nat) := by
  unfold enL
  rw [List.map_append, List.map_drop]
  rfl

theorem sc_spans : FnScope ["wave", "starts", "ends"] ["wave"] (defScope s_spans) := ⟨rfl, rfl, rfl, by decide +kernel, rfl, by decide +kernel, by decide +kernel⟩
theorem ok_spans (T : Tx K mg cTickError cNoTick cUnlike cClash cTooLong cNoWave cNoName cNoText) : Cal P w K mg base CX0 1 "spans" ["wave"] (spSpans K) := by
  obtain ⟨f, fd, F, hm, hb⟩ := T.f_spans
  have SC := sc_spans
  have XTooLong := T.x_TooLong
  refine ⟨f, fd, ?_, hm, F.kp, hb⟩
  refine F.ok SC (fun vs H Q E h => ?_) (fun cdv A outer s H vs Q E hr h => ?_)
  · obtain ⟨l, rfl, _⟩ := h
    rfl
  · obtain ⟨l, rfl, hl1, hl, q⟩ := h
    have s0 : Same H H := .refl _
    refine ⟨_, (pss_cons (ps_setComp (i := 1) (N := ["tick", "wave"]) (k := 1) (fr := [0]) rfl ⟨rfl, rfl, rfl, rfl, rfl, rfl⟩ (pi_range1 rfl T.range (@pax _ _ _ _ _ rfl (pe_callB call_lenS (by rfl) T.len PySem.boot_len (@pax _ _ _ _ _ rfl (pv 0) pa_nil)) pa_nil)) (fun _ _ _ _ => (pg_name (i := 0) (show List.Nodup (α := Str) ["tick", "wave"] from by decide +kernel) rfl (Or.inl rfl) (Or.inr rfl))) (fun _ _ _ _ => (pts_one (PW.pt (pw_or (pt_cmpR op_eq (pv 0) pe_int (nomark _)) (pw_or1 (pt_cmpR op_ne (pe_ix ix_S (pv 1) (pv 0) (fun _ _ => rfl)) (pe_ix ix_S (pv 1) (pe_op op_sub (pv 0) pe_int) (fun _ _ => rfl)) (nomark _))))))) (fun _ _ _ _ => (pv 0)) SC.nd rfl rfl)
      (pss_cons (ps_set (i := 2) SC.nd rfl (Or.inl rfl) (pe_op op_cat (pe_slice sl_list (pv 1) (po_some pe_int) po_none) (pe_lst (@pax _ _ _ _ _ rfl (pe_callB call_lenS (by rfl) T.len PySem.boot_len (@pax _ _ _ _ _ rfl (pv 0) pa_nil)) pa_nil))))
      (pss_one (ps_ret (pe_comp (N := ["start", "end", "wave"]) (k := 2) (fr := [0]) rfl ⟨rfl, rfl, rfl, rfl, rfl, rfl⟩ (pi_zip rfl T.zip (@pax _ _ _ _ _ rfl (pv 1) (@pax _ _ _ _ _ rfl (pv 2) pa_nil))) (fun _ _ _ _ => (pg_tupK (K := K) (n := 2) rfl rfl (pgs_cons (pg_name (i := 0) (show List.Nodup (α := Str) ["start", "end", "wave"] from by decide +kernel) rfl (Or.inl rfl) (Or.inr rfl)) (pgs_cons (pg_name (i := 1) (show List.Nodup (α := Str) ["start", "end", "wave"] from by decide +kernel) rfl (Or.inl rfl) (Or.inr rfl)) pgs_nil)) rfl rfl)) (fun _ _ _ _ => pts_nil) (fun _ _ _ _ => (pe_tup (@pax _ _ _ _ _ rfl (pv 0) (@pax _ _ _ _ _ rfl (pe_op op_sub (pv 1) (pv 0)) (@pax _ _ _ _ _ rfl (pe_ix ix_S (pv 2) (pv 0) (fun _ _ => rfl)) pa_nil)))))))))), ?_⟩
    have hz : l.length ≤ sizeLine := big _ (by omega)
    refine ⟨_, rfl, l, rfl, hz, _, rfl, by omega, by omega, ?_⟩
    rw [show ((l.length : Int)).toNat = l.length by omega]
    refine comp_range (K := K) 0 l.length (stF l) [some (S l)] rfl hz ?_ ?_
    · intro D own ys H2 i hi Kt Kf ho sm hD2 hD1 sy kt kf
      obtain ⟨o, rfl⟩ := own1 ho
      refine ⟨_, rfl, rfl, _, rfl, ?_⟩
      refine ite2 (fun h1 => ?_) (fun h1 => ?_)
      · have h1' : i = 0 := by
          have : (0 : Int) + (i : Int) = 0 := by simpa using h1
          omega
        have hb : stB l i = true := by simp [stB, h1']
        exact ⟨_, rfl, kt [some (.int (0 + (i : Int)))] _ _ _ rfl (.refl _) (if_pos hb) rep_int⟩
      · have h1' : i ≠ 0 := by
          intro z
          exact h1 (by simp [z])
        have a1 : atI l (0 + (i : Int)) = some (l.getD i 0) := by
          have e : 0 + (i : Int) = (i : Nat) := by omega
          rw [e]
          exact atI_nat (by simp [hi])
        have a2 : atI l (0 + (i : Int) - 1) = some (l.getD (i - 1) 0) := by
          have e : 0 + (i : Int) - 1 = ((i - 1 : Nat) : Int) := by omega
          have hlt : i - 1 < l.length := by omega
          rw [e]
          exact atI_nat (by simp [hlt])
        refine ⟨_, rfl, _, rfl, l, _, _, rfl, rfl, hz, a1, _, rfl, _, rfl, _, _, rfl, rfl, l, _, _, rfl, rfl, hz, a2, rfl, _, rfl, ?_⟩
        rw [S_dec]
        refine ite2 (fun h2 => ?_) (fun h2 => ?_)
        · have h2' : l.getD i 0 ≠ l.getD (i - 1) 0 := by simpa using h2
          have hb : stB l i = true := by simp only [stB, decide_eq_true h2', Bool.or_true]
          exact ⟨_, rfl, kt [some (.int (0 + (i : Int)))] _ _ _ rfl (.refl _) (if_pos hb) rep_int⟩
        · have h2' : ¬ l.getD i 0 ≠ l.getD (i - 1) 0 := by simpa using h2
          have hb : ¬ stB l i = true := by simp only [stB, decide_eq_false h2', Bool.or_false, beq_iff_eq]; exact h1'
          exact kf [some (.int (0 + (i : Int)))] _ rfl (.refl _) (if_neg hb)
    intro D1 H1 r1 s1
    rw [stF_eq] at r1
    obtain ⟨a1, xs1, e1, hq1, rr1⟩ := (by simpa only [Rep] using r1 : ∃ a xs, V.ref D1 = .ref a ∧ SqL K H1 a xs ∧ Reps K H1 ((stL l).map fun i => Dt.int (i : Nat)) xs)
    cases e1
    have exs := reps_nats rr1
    subst exs
    obtain ⟨r0, er0⟩ := stL_cons hl1
    have n1 : 1 ≤ (stL l).length := by rw [er0]; simp
    have n2 := stL_len l
    have n3 : (enL l).length = (stL l).length := by
      unfold enL
      simp
      omega
    refine ⟨_, rfl, 1, rfl, D1, _, rfl, hq1, fun p hp => ?_⟩
    rw [cutV_tail (by simpa using n1)]
    refine ⟨_, rfl, l, rfl, hz, big 1, fun p2 hp2 => ?_⟩
    refine ⟨p, p2, _, _, rfl, rfl, Same.upd hp2 _ _ upd_same, upd_same, big _ (by simp; omega), fun p3 hp3 => ?_⟩
    rw [enL_map l]
    have s5 := ((Same.upd (o := .lst (List.drop 1 ((stL l).map fun i => V.int (i : Nat)))) hp).trans (.upd (o := .lst [.int (l.length : Nat)]) hp2)).trans (.upd (o := .lst ((enL l).map fun i => V.int (i : Nat))) hp3)
    have hqs := s5.seq hq1
    have hqe : SqL K _ p3 ((enL l).map fun i => V.int (i : Nat)) := .of (upd_same (H := upd (upd H1 p (.lst (List.drop 1 ((stL l).map fun i => V.int (i : Nat))))) p2 (.lst [.int (l.length : Nat)])))
    refine ⟨_, rfl, _, rfl, D1, p3, _, _, rfl, hqs, hqe, ?_⟩
    refine rdComp_rep (K := K) (stL l).length (spF l) [some (S l)] rfl (by omega) (fun i H h s => ⟨_, _, s.seq hqs, s.seq hqe, by simp; omega⟩) (fun H s => ⟨_, _, s.seq hqs, s.seq hqe, by simp; omega⟩) (fun i H x H' y => by obtain ⟨T, u, v, _, hT, rfl, _⟩ := y; exact .upd hT) ?_ ?_
    · intro D i own ys H2 x H3 Kt Kf hi ho sm hD2 hD1 y sy kt kf
      obtain ⟨T, u, v, rfl, hT, rfl, hu, hv⟩ := y
      have eu : u = .int (((stL l).getD i 0 : Nat) : Int) := by
        have := hu _ (sm.seq hqs)
        simp [hi] at this
        rw [← this]
        simp [hi]
      have ev : v = .int (((enL l).getD i 0 : Nat) : Int) := by
        have := hv _ (sm.seq hqe)
        have hi' : i < (enL l).length := by omega
        simp [hi'] at this
        rw [← this]
        simp [hi']
      subst eu ev
      obtain ⟨o1, o2, rfl⟩ := own2 ho
      have hst : (stL l).getD i 0 < l.length := stL_mem (by simp [hi])
      have at1 : atI l (((stL l).getD i 0 : Nat) : Int) = some (l.getD ((stL l).getD i 0) 0) := atI_nat (by
        generalize (stL l).getD i 0 = k at hst
        simp [hst])
      refine ⟨T, _, rfl, .of upd_same, rfl, _, _, rfl, _, _, rfl, rfl, ?_⟩
      refine ⟨_, rfl, _, rfl, _, rfl, _, _, rfl, rfl, _, rfl, _, rfl, l, _, _, rfl, rfl, hz, at1, big 3, fun p4 hp4 => ?_⟩
      refine kt [some (.int (((stL l).getD i 0 : Nat) : Int)), some (.int (((enL l).getD i 0 : Nat) : Int))] (.ref p4) _ _ rfl ((Same.upd hT).trans (.upd hp4)) rfl ?_
      exact rep_tupD (Same.upd hT _ _ hD2) hp4 (.cons rep_int (.cons rep_int (.cons rep_str .nil)))
    · rintro D H' ⟨ys, h1, h2⟩ s
      exact q D H' (rep_lst h1 h2) (s1.trans (s5.trans s))

def rowsD (rs : List (Int × List Nat)) : List Dt := rs.map fun r => .tup [.int r.1, .str r.2]
def cap (n : Int) : Int := if 13 < n then 13 else n
def ofSp (rs : List (Int × List Nat)) : List Nat := (rs.map fun r => (List.replicate (cap r.1).toNat r.2).flatten).flatten
def spOf (K : PySem.W.Frag) (cT : Addr) : Sp := fun vs H Q E => ∃ a rs, vs = [.ref a] ∧ Rep K H (.lst (rowsD rs)) (.ref a) ∧ rs.length ≤ 20 ∧ (∀ r ∈ rs, 0 ≤ r.1 ∧ r.1 ≤ 1000 ∧ r.2.length = 1) ∧
  (∀ H', Same H H' → okLen (ofSp rs) → Q (S (ofSp rs)) H') ∧ (∀ H', Same H H' → ¬ okLen (ofSp rs) → E (.ref cT) none H')
theorem repT2 {K : PySem.W.Frag} {H : Hp} {t : Int} {x : List Nat} {v : V} (h : Rep K H (.tup [.int t, .str x]) v) : ∃ a, v = .ref a ∧ SqT K H a [.int t, S x] := by
  simp only [Rep, Reps] at h
  obtain ⟨a, xs, rfl, hq, _, _, rfl, rfl, _, _, rfl, rfl, rfl⟩ := h
  exact ⟨a, rfl, hq⟩
def ofF : Dt → Option Dt
  | .tup [.int t, .str x] => some (.str (List.replicate (cap t).toNat x).flatten)
  | _ => none
theorem ofF_eq (rs : List (Int × List Nat)) : (rowsD rs).filterMap ofF = (rs.map fun r => (List.replicate (cap r.1).toNat r.2).flatten).map Dt.str := by
  unfold rowsD
  induction rs with
  | nil => rfl
  | cons r rs ih => simp only [List.map_cons, List.filterMap_cons, ofF, ih]
theorem reps_strs {K : PySem.W.Frag} {H : Hp} : ∀ {ls : List (List Nat)} {xs : List V}, Reps K H (ls.map Dt.str) xs → xs = ls.map S
  | [], _, h => by simpa only [List.map_nil, Reps] using h
  | n :: ns, _, h => by
    simp only [List.map_cons, Reps, Rep] at h
    obtain ⟨x, r, rfl, rfl, h⟩ := h
    rw [reps_strs h]
    rfl
theorem ofSp_len {rs : List (Int × List Nat)} (h : ∀ r ∈ rs, 0 ≤ r.1 ∧ r.1 ≤ 1000 ∧ r.2.length = 1) : (ofSp rs).length ≤ 13 * rs.length := by
  unfold ofSp
  induction rs with
  | nil => simp
  | cons r rs ih =>
    have h1 := h r List.mem_cons_self
    have h2 := ih fun r' hr => h r' (List.mem_cons_of_mem _ hr)
    simp only [List.map_cons, List.flatten_cons, List.length_append, List.length_cons]
    have h3 : ((List.replicate (cap r.1).toNat r.2).flatten).length ≤ 13 := by
      simp [h1.2.2]
      unfold cap
      split <;> omega
    omega

theorem sc_of_spans : FnScope ["rows"] ["rows"] (defScope s_of_spans) := ⟨rfl, rfl, rfl, by decide +kernel, rfl, by decide +kernel, by decide +kernel⟩
theorem ok_of_spans (T : Tx K mg cTickError cNoTick cUnlike cClash cTooLong cNoWave cNoName cNoText) : Cal P w K mg base (CX1 P w) 3 "of_spans" ["rows"] (spOf K cTooLong) := by
  obtain ⟨f, fd, F, hm, hb⟩ := T.f_of_spans
  have SC := sc_of_spans
  have Cnot_too_long := ok_not_too_long (P := P) (w := w) (base := base) T
  have XTooLong := T.x_TooLong
  refine ⟨f, fd, ?_, hm, F.kp, hb⟩
  refine F.okX SC (fun vs H Q E h => ?_) (fun cdv A outer s H vs Q E hr h R => ?_)
  · obtain ⟨a, rs, rfl, _⟩ := h
    rfl
  · obtain ⟨a, rs, rfl, hr0, hn, hrs, q, x⟩ := h
    have s0 : Same H H := .refl _
    refine ⟨_, (pss_one (ps_ret (pe_cal Cnot_too_long (hr.mono (by decide)) R.pass (@pax _ _ _ _ _ rfl (pe_bm PySem.F.plainAttrs_str PySem.F.slot_str_join PySem.F.type_str_join mt_joinS (pe_S (l := [])) (@pax _ _ _ _ _ rfl (pe_comp (N := ["many", "level"]) (k := 2) (fr := []) rfl ⟨rfl, rfl, rfl, rfl, rfl, rfl⟩ (pi_list (pv 0)) (fun _ _ _ _ => (pg_tupK (K := K) (n := 2) rfl rfl (pgs_cons (pg_name (i := 0) (show List.Nodup (α := Str) ["many", "level"] from by decide +kernel) rfl (Or.inl rfl) (Or.inr rfl)) (pgs_cons (pg_name (i := 1) (show List.Nodup (α := Str) ["many", "level"] from by decide +kernel) rfl (Or.inl rfl) (Or.inr rfl)) pgs_nil)) rfl rfl)) (fun _ _ _ _ => pts_nil) (fun _ _ _ _ => (pe_op op_repS (pv 1) (pe_callB (call_min2 rfl) (by rfl) T.min boot_min (@pax _ _ _ _ _ rfl (pv 0) (@pax _ _ _ _ _ rfl (pe_op op_add (pe_glob (by rfl) T.MOST_TICKS.choose_spec (v := .int 12) ⟨_, rfl⟩) pe_int) pa_nil)))))) pa_nil)) pa_nil)))), ?_⟩
    obtain ⟨a1, xs1, e1, hq1, rr1⟩ := (by simpa only [Rep] using hr0 : ∃ a' xs, V.ref a = .ref a' ∧ SqL K H a' xs ∧ Reps K H (rowsD rs) xs)
    cases e1
    refine ⟨rfl, _, rfl, _, rfl, ⟨_, hq1⟩, ?_⟩
    refine comp_list (K := K) (rowsD rs) ofF [] rfl hr0 (big _ (by simp [rowsD]; omega)) ?_ ?_
    · intro D own ys H2 y d hd rd Kt Kf ho sm hD2 hD1 sy kt kf
      obtain ⟨o1, o2, rfl⟩ := own2 ho
      obtain ⟨r, hr1, rfl⟩ := List.mem_map.mp hd
      obtain ⟨p, rfl, hT⟩ := repT2 rd
      have hb := hrs r hr1
      have ec : (if (12 : Int) + 1 < r.1 then 12 + 1 else r.1) = cap r.1 := rfl
      have c0 : -1000 ≤ cap r.1 := by unfold cap; split <;> omega
      have c1 : cap r.1 ≤ 1000 := by unfold cap; split <;> omega
      refine ⟨p, _, rfl, hT, rfl, _, _, rfl, _, _, rfl, rfl, ?_⟩
      refine ⟨_, rfl, _, rfl, _, _, rfl, rfl, _, _, rfl, ?_⟩
      refine ⟨r.2, cap r.1, rfl, rfl, c0, c1, by omega, ?_⟩
      exact kt [some (.int r.1), some (S r.2)] _ _ _ rfl (.refl _) rfl rep_str
    intro D H1 r1 s1
    rw [ofF_eq] at r1
    obtain ⟨a1, xs1, e1, hq2, rr2⟩ := (by simpa only [Rep] using r1 : ∃ a' xs, V.ref D = .ref a' ∧ SqL K H1 a' xs ∧ Reps K H1 ((rs.map fun r => (List.replicate (cap r.1).toNat r.2).flatten).map Dt.str) xs)
    cases e1
    have exs := reps_strs rr2
    subst exs
    have hlen := ofSp_len hrs
    refine ⟨D, _, rfl, rfl, hq2, (by have : (ofSp rs).length ≤ 10000 := by omega
                                     exact this), ?_⟩
    exact ⟨ofSp rs, rfl, by omega, fun h => q _ s1 h, fun h => x _ s1 h⟩

theorem rel_ref {c : Addr} {K : PySem.W.Frag} {C : Addr} {b : Bool} (h : kitOne K (.ref C) (.ref c) = some b) : ∀ u, RelV (.ref c) u → kitOne K (.ref C) u = some b := fun u r => by
  cases r
  exact h
theorem rel_ty {n : String} {K : PySem.W.Frag} {C : Addr} {b : Bool} (h : kitOne K (.ref C) (.type n) = some b) : ∀ u, RelV (.ty n) u → kitOne K (.ref C) u = some b := fun u r => by
  cases r
  exact h

theorem sc_law_word : FnScope ["_law_kept", "_law_kinds"] ["_law_kept"] (defScope s_law_word) := ⟨rfl, rfl, rfl, by decide +kernel, rfl, by decide +kernel, by decide +kernel⟩
theorem ok__law_word (T : Tx K mg cTickError cNoTick cUnlike cClash cTooLong cNoWave cNoName cNoText) : Cal P w K mg base CX0 1 "_law_word" ["_law_kept"] (spWord K cClash cNoName cNoText cNoTick cNoWave cTooLong cUnlike) := by
  obtain ⟨f, fd, F, hm, hb⟩ := T.f__law_word
  have SC := sc_law_word
  have XTooLong := T.x_TooLong
  refine ⟨f, fd, ?_, hm, F.kp, hb⟩
  refine F.ok SC (fun vs H Q E h => ?_) (fun cdv A outer s H vs Q E hr h => ?_)
  · obtain ⟨a, C, j, rfl, _⟩ := h
    rfl
  · obtain ⟨a, C, j, rfl, hH, W, q⟩ := h
    have s0 : Same H H := .refl _
    refine ⟨_, (pss_cons (ps_set (i := 1) SC.nd rfl (Or.inl rfl) (pe_lst (@pax _ _ _ _ _ rfl (pe_callB call_isExc (by rfl) T.isinstance boot_isinstance (@pax _ _ _ _ _ rfl (pv 0) (@pax _ _ _ _ _ rfl (pe_glob (by rfl) T.Clash (v := .ref cClash) rfl) pa_nil))) (@pax _ _ _ _ _ rfl (pe_callB call_isExc (by rfl) T.isinstance boot_isinstance (@pax _ _ _ _ _ rfl (pv 0) (@pax _ _ _ _ _ rfl (pe_glob (by rfl) T.NoName (v := .ref cNoName) rfl) pa_nil))) (@pax _ _ _ _ _ rfl (pe_callB call_isExc (by rfl) T.isinstance boot_isinstance (@pax _ _ _ _ _ rfl (pv 0) (@pax _ _ _ _ _ rfl (pe_glob (by rfl) T.NoText (v := .ref cNoText) rfl) pa_nil))) (@pax _ _ _ _ _ rfl (pe_callB call_isExc (by rfl) T.isinstance boot_isinstance (@pax _ _ _ _ _ rfl (pv 0) (@pax _ _ _ _ _ rfl (pe_glob (by rfl) T.NoTick (v := .ref cNoTick) rfl) pa_nil))) pa_nil))))))
      (pss_cons (ps_expr (pe_bm PySem.F.plainAttrs_list PySem.F.slot_list_extend PySem.F.type_list_extend mt_extend (pv 1) (@pax _ _ _ _ _ rfl (pe_lst (@pax _ _ _ _ _ rfl (pe_callB call_isExc (by rfl) T.isinstance boot_isinstance (@pax _ _ _ _ _ rfl (pv 0) (@pax _ _ _ _ _ rfl (pe_glob (by rfl) T.NoWave (v := .ref cNoWave) rfl) pa_nil))) (@pax _ _ _ _ _ rfl (pe_callB call_isExc (by rfl) T.isinstance boot_isinstance (@pax _ _ _ _ _ rfl (pv 0) (@pax _ _ _ _ _ rfl (pe_glob (by rfl) T.TooLong (v := .ref cTooLong) rfl) pa_nil))) (@pax _ _ _ _ _ rfl (pe_callB call_isExc (by rfl) T.isinstance boot_isinstance (@pax _ _ _ _ _ rfl (pv 0) (@pax _ _ _ _ _ rfl (pe_glob (by rfl) T.Unlike (v := .ref cUnlike) rfl) pa_nil))) pa_nil)))) pa_nil)))
      (pss_cons (ps_if (PW.pt (pw_or (pt_cmpR op_ne (pe_bm PySem.F.plainAttrs_list PySem.F.slot_list_count PySem.F.type_list_count mt_countV (pv 1) (@pax _ _ _ _ _ rfl pe_bl pa_nil)) pe_int (nomark _)) (pw_or1 (pt_not (pt_val (pe_callB call_isExc (by rfl) T.isinstance boot_isinstance (@pax _ _ _ _ _ rfl (pv 0) (@pax _ _ _ _ _ rfl (pe_bltn (by rfl) T.ValueError boot_ValueError (v := .ty "ValueError") rfl) pa_nil)))))))) (pss_one (ps_ret (pe_S (l := [119, 114, 111, 110, 103])))) pss_nil)
      (pss_one (ps_ret (pe_ix ix_list (pe_lst (@pax _ _ _ _ _ rfl (pe_S (l := [99, 108, 97, 115, 104])) (@pax _ _ _ _ _ rfl (pe_S (l := [110, 111, 32, 110, 97, 109, 101])) (@pax _ _ _ _ _ rfl (pe_S (l := [110, 111, 32, 116, 101, 120, 116])) (@pax _ _ _ _ _ rfl (pe_S (l := [110, 111, 32, 116, 105, 99, 107])) (@pax _ _ _ _ _ rfl (pe_S (l := [110, 111, 32, 119, 97, 118, 101])) (@pax _ _ _ _ _ rfl (pe_S (l := [116, 111, 111, 32, 108, 111, 110, 103])) (@pax _ _ _ _ _ rfl (pe_S (l := [117, 110, 108, 105, 107, 101])) pa_nil)))))))) (pe_bm PySem.F.plainAttrs_list PySem.F.slot_list_index PySem.F.type_list_index mt_indexV (pv 1) (@pax _ _ _ _ _ rfl pe_bl pa_nil)) (fun _ _ => rfl))))))), ?_⟩
    have w0 := rel_ref W.w0
    have w1 := rel_ref W.w1
    have w2 := rel_ref W.w2
    have w3 := rel_ref W.w3
    have w4 := rel_ref W.w4
    have w5 := rel_ref W.w5
    have w6 := rel_ref W.w6
    have wv := rel_ty W.ve
    refine ⟨_, rfl, a, C, _, _, rfl, hH, W.z, w0, _, rfl, a, C, _, _, rfl, hH, W.z, w1, _, rfl, a, C, _, _, rfl, hH, W.z, w2, _, rfl, a, C, _, _, rfl, hH, W.z, w3, big 4, fun p hp => ?_⟩
    have h1 : Same H (upd H p (.lst [V.bl (j == 0), V.bl (j == 1), V.bl (j == 2), V.bl (j == 3)])) := .upd hp
    refine ⟨_, rfl, .inl ⟨rfl, _, .of upd_same⟩, _, rfl, a, C, _, _, rfl, h1 _ _ hH, W.z, w4, _, rfl, a, C, _, _, rfl, h1 _ _ hH, W.z, w5, _, rfl, a, C, _, _, rfl, h1 _ _ hH, W.z, w6, big 3, fun p2 hp2 => ?_⟩
    have np : p ≠ p2 := ne_of_none upd_same hp2
    have e1 : upd (upd H p (.lst [V.bl (j == 0), V.bl (j == 1), V.bl (j == 2), V.bl (j == 3)])) p2 (.lst [V.bl (j == 4), V.bl (j == 5), V.bl (j == 6)]) p = some (.lst [V.bl (j == 0), V.bl (j == 1), V.bl (j == 2), V.bl (j == 3)]) := by rw [upd_ne np]; exact upd_same
    refine ⟨p, p2, _, _, rfl, rfl, e1, upd_same, big 7, ?_⟩
    have hap : a ≠ p := ne_of_none hH hp
    have s2 : Same H (upd (upd (upd H p (.lst [V.bl (j == 0), V.bl (j == 1), V.bl (j == 2), V.bl (j == 3)])) p2 (.lst [V.bl (j == 4), V.bl (j == 5), V.bl (j == 6)])) p (.lst ([V.bl (j == 0), V.bl (j == 1), V.bl (j == 2), V.bl (j == 3)] ++ [V.bl (j == 4), V.bl (j == 5), V.bl (j == 6)]))) := fun b o e => by
      rw [upd_ne (ne_of_none e hp)]
      exact h1.trans (.upd hp2) b o e
    have c1 : ([V.bl (j == 0), V.bl (j == 1), V.bl (j == 2), V.bl (j == 3)] ++ [V.bl (j == 4), V.bl (j == 5), V.bl (j == 6)]).countP (fun z => eqV z (.bl true)) = 1 := by
      have := W.lt
      match j, this with
      | 0, _ => rfl
      | 1, _ => rfl
      | 2, _ => rfl
      | 3, _ => rfl
      | 4, _ => rfl
      | 5, _ => rfl
      | 6, _ => rfl
    have c2 : (∃ z, ([V.bl (j == 0), V.bl (j == 1), V.bl (j == 2), V.bl (j == 3)] ++ [V.bl (j == 4), V.bl (j == 5), V.bl (j == 6)])[j]? = some z ∧ eqV z (.bl true) = true) ∧ (∀ m z, m < j → ([V.bl (j == 0), V.bl (j == 1), V.bl (j == 2), V.bl (j == 3)] ++ [V.bl (j == 4), V.bl (j == 5), V.bl (j == 6)])[m]? = some z → eqV z (.bl true) = false) := by
      have hj := W.lt
      have key : ∀ (m : Nat), m < 7 → ([V.bl (j == 0), V.bl (j == 1), V.bl (j == 2), V.bl (j == 3)] ++ [V.bl (j == 4), V.bl (j == 5), V.bl (j == 6)])[m]? = some (V.bl (j == m)) := fun m hm => by
        match m, hm with
        | 0, _ => rfl
        | 1, _ => rfl
        | 2, _ => rfl
        | 3, _ => rfl
        | 4, _ => rfl
        | 5, _ => rfl
        | 6, _ => rfl
      refine ⟨⟨_, key j hj, by simp [eqV]⟩, fun m z hm hz => ?_⟩
      rw [key m (by omega)] at hz
      cases hz
      simp [eqV]
      omega
    have c3 : atI [S [99, 108, 97, 115, 104], S [110, 111, 32, 110, 97, 109, 101], S [110, 111, 32, 116, 101, 120, 116], S [110, 111, 32, 116, 105, 99, 107], S [110, 111, 32, 119, 97, 118, 101], S [116, 111, 111, 32, 108, 111, 110, 103], S [117, 110, 108, 105, 107, 101]] ((j : Nat) : Int) = some (S (wordL j)) := by
      have hj := W.lt
      match j, hj with
      | 0, _ => rfl
      | 1, _ => rfl
      | 2, _ => rfl
      | 3, _ => rfl
      | 4, _ => rfl
      | 5, _ => rfl
      | 6, _ => rfl
    refine ⟨_, rfl, .inl ⟨rfl, _, .of upd_same⟩, p, _, _, rfl, rfl, upd_same, rfl, rfl, rfl, _, rfl, ?_⟩
    rw [c1]
    refine iteF ?_
    refine ⟨_, rfl, a, C, _, _, rfl, s2 _ _ hH, W.z, wv, _, rfl, iteF ?_⟩
    refine ⟨big 7, fun p3 hp3 => ?_⟩
    have e3 : ∀ o, upd (upd (upd (upd H p (.lst [V.bl (j == 0), V.bl (j == 1), V.bl (j == 2), V.bl (j == 3)])) p2 (.lst [V.bl (j == 4), V.bl (j == 5), V.bl (j == 6)])) p (.lst ([V.bl (j == 0), V.bl (j == 1), V.bl (j == 2), V.bl (j == 3)] ++ [V.bl (j == 4), V.bl (j == 5), V.bl (j == 6)]))) p3 o p = some (.lst ([V.bl (j == 0), V.bl (j == 1), V.bl (j == 2), V.bl (j == 3)] ++ [V.bl (j == 4), V.bl (j == 5), V.bl (j == 6)])) := fun o => by
      rw [upd_ne (ne_of_none upd_same hp3)]
      exact upd_same
    refine ⟨_, rfl, .inl ⟨rfl, _, .of (e3 _)⟩, p, _, _, j, rfl, rfl, e3 _, rfl, rfl, c2.1, c2.2, p3, _, _, _, rfl, rfl, .of upd_same, c3, ?_⟩
    exact q _ (s2.trans (.upd hp3))
theorem word_TooLong (T : Tx K mg cTickError cNoTick cUnlike cClash cTooLong cNoWave cNoName cNoText) : WordK K cTooLong cClash cNoName cNoText cNoTick cNoWave cTooLong cUnlike 5 := ⟨⟨T.e1_TooLong, T.e2_TooLong, T.e3_TooLong, T.e4_TooLong, T.e5_TooLong, T.e6_TooLong, T.e7_TooLong, T.e8_TooLong⟩, by decide, T.w0_TooLong, T.w1_TooLong, T.w2_TooLong, T.w3_TooLong, T.w4_TooLong, T.w5_TooLong, T.w6_TooLong, T.v_TooLong⟩

def madeA (rs : List (Int × List Nat)) : List Nat := if 1 ≤ (ofSp rs).length ∧ (ofSp rs).length ≤ 12 then ofSp rs else wordL 5
def spMade (K : PySem.W.Frag) : Sp := fun vs H Q E => ∃ a rs, vs = [.ref a] ∧ Rep K H (.lst (rowsD rs)) (.ref a) ∧ rs.length ≤ 20 ∧ (∀ r ∈ rs, 0 ≤ r.1 ∧ r.1 ≤ 1000 ∧ r.2.length = 1) ∧ ∀ H', Same H H' → Q (S (madeA rs)) H'

theorem sc_law_made : FnScope ["_law_rows", "_law_kept", "_law_answer", "e"] ["_law_rows"] (defScope s_law_made) := ⟨rfl, rfl, rfl, by decide +kernel, rfl, by decide +kernel, by decide +kernel⟩
theorem ok__law_made (T : Tx K mg cTickError cNoTick cUnlike cClash cTooLong cNoWave cNoName cNoText) : Cal P w K mg base CX0 4 "_law_made" ["_law_rows"] (spMade K) := by
  obtain ⟨f, fd, F, hm, hb⟩ := T.f__law_made
  have SC := sc_law_made
  have CL_word := ok__law_word (P := P) (w := w) (base := base) T
  have Cof_spans := ok_of_spans (P := P) (w := w) (base := base) T
  have XTooLong := T.x_TooLong
  refine ⟨f, fd, ?_, hm, F.kp, hb⟩
  refine F.ok SC (fun vs H Q E h => ?_) (fun cdv A outer s H vs Q E hr h => ?_)
  · obtain ⟨a, rs, rfl, _⟩ := h
    rfl
  · obtain ⟨a, rs, rfl, hr0, hn, hrs, q⟩ := h
    have s0 : Same H H := .refl _
    refine ⟨_, (pss_cons (ps_set (i := 1) SC.nd rfl (Or.inl rfl) pe_non)
      (pss_cons (ps_set (i := 2) SC.nd rfl (Or.inl rfl) pe_non)
      (pss_cons (ps_try (iN := 3) rfl ⟨rfl, rfl⟩ rfl SC.nd rfl rfl (by rfl) T.TickError (fun _ _ _ hp => (pss_one (ps_set (i := 2) SC.nd rfl (Or.inl rfl) (pe_cal Cof_spans (hr.mono (by decide)) hp (@pax _ _ _ _ _ rfl (pv 0) pa_nil))))) (fun _ _ => (pss_one (ps_set (i := 1) SC.nd rfl (Or.inl rfl) (pv 3)))))
      (pss_cons (ps_if (pt_cmpR op_isN (pv 1) pe_non (nomark _)) (pss_one (ps_ret (pv 2))) pss_nil)
      (pss_one (ps_ret (pe_cal CL_word (hr.mono (by decide)) pass0 (@pax _ _ _ _ _ rfl (pv 1) pa_nil)))))))), ?_⟩
    refine ⟨_, rfl, a, rs, rfl, hr0, hn, hrs, fun H1 s1 hi => ?_, fun H1 s1 hi => ?_⟩
    · have e : madeA rs = ofSp rs := by unfold madeA; exact if_pos hi
      refine ⟨_, rfl, rfl, _, rfl, iteT ?_⟩
      refine ⟨_, rfl, ?_⟩
      rw [← e]
      exact q _ s1
    · have e : madeA rs = wordL 5 := by unfold madeA; exact if_neg hi
      intro ea C e' hea
      cases e'
      refine ⟨T.m_TooLong, _, rfl, ?_⟩
      refine ⟨_, rfl, rfl, _, rfl, iteF ?_⟩
      refine ⟨_, rfl, ea, _, 5, rfl, upd_same, word_TooLong T, fun H' s' => ?_⟩
      show Q (S (wordL 5)) H'
      rw [← e]
      exact q _ (s1.trans ((Same.upd hea).trans s'))
end
end K03

set_option Elab.async false
set_option linter.all false
set_option maxRecDepth 100000
set_option maxHeartbeats 4000000
namespace K03
open PySem L2 PyProof.Rows PySem.W
theorem getD_lt {l m : List Nat} {j : Nat} (h : j < l.length) : (l ++ m).getD j 0 = l.getD j 0 := by
  simp [List.getD_eq_getElem?_getD, List.getElem?_append_left h]
theorem getD_at {l : List Nat} {x : Nat} : (l ++ [x]).getD l.length 0 = x := by
  simp [List.getD_eq_getElem?_getD]
structure FrF (p : Nat → Bool) (n : Nat) (st : List Nat) : Prop where
  lt : ∀ j, j < st.length → st.getD j 0 < n
  yes : ∀ j, j < st.length → p (st.getD j 0) = true
  up : ∀ j, j + 1 < st.length → st.getD j 0 < st.getD (j + 1) 0
  mid : ∀ j, j + 1 < st.length → ∀ i, st.getD j 0 < i → i < st.getD (j + 1) 0 → p i = false
  last : ∀ j, j + 1 = st.length → ∀ i, st.getD j 0 < i → i < n → p i = false
theorem frF (p : Nat → Bool) : ∀ n, FrF p n ((List.range n).filter p)
  | 0 => ⟨fun j h => by simp at h, fun j h => by simp at h, fun j h => by simp at h, fun j h => by simp at h, fun j h => by simp at h⟩
  | n + 1 => by
    have ih := frF p n
    rw [List.range_succ, List.filter_append]
    generalize (List.range n).filter p = st at ih
    by_cases hp : p n = true
    · have e : List.filter p [n] = [n] := by simp [hp]
      rw [e]
      have hlen : (st ++ [n]).length = st.length + 1 := by simp
      refine ⟨fun j h => ?_, fun j h => ?_, fun j h => ?_, fun j h i h1 h2 => ?_, fun j h i h1 h2 => ?_⟩
      · by_cases hj : j < st.length
        · rw [getD_lt hj]; have := ih.lt j hj; omega
        · have : j = st.length := by omega
          subst this; rw [getD_at]; omega
      · by_cases hj : j < st.length
        · rw [getD_lt hj]; exact ih.yes j hj
        · have : j = st.length := by omega
          subst this; rw [getD_at]; exact hp
      · by_cases hj : j + 1 < st.length
        · rw [getD_lt hj, getD_lt (by omega)]; exact ih.up j hj
        · have : j + 1 = st.length := by omega
          rw [this, getD_at, getD_lt (by omega)]; exact ih.lt j (by omega)
      · by_cases hj : j + 1 < st.length
        · rw [getD_lt hj] at h2
          rw [getD_lt (by omega)] at h1
          exact ih.mid j hj i h1 h2
        · have : j + 1 = st.length := by omega
          rw [this, getD_at] at h2
          rw [getD_lt (by omega)] at h1
          exact ih.last j this i h1 h2
      · have : j = st.length := by omega
        subst this
        rw [getD_at] at h1
        omega
    · have e : List.filter p [n] = [] := by simp [hp]
      rw [e, List.append_nil]
      refine ⟨fun j h => ?_, ih.yes, ih.up, ih.mid, fun j h i h1 h2 => ?_⟩
      · have := ih.lt j h; omega
      · by_cases hi : i = n
        · subst hi; simpa using hp
        · exact ih.last j h i h1 (by omega)
section
variable {l : List Nat}
theorem stF' (l : List Nat) : FrF (stB l) l.length (stL l) := frF _ _
theorem en_at {j : Nat} (hj : j < (stL l).length) : (enL l).getD j 0 = if j + 1 < (stL l).length then (stL l).getD (j + 1) 0 else l.length := by
  unfold enL
  have hd : ((stL l).drop 1).length = (stL l).length - 1 := by simp
  by_cases h : j + 1 < (stL l).length
  · rw [if_pos h, getD_lt (by omega)]
    simp [List.getD_eq_getElem?_getD, List.getElem?_drop, Nat.add_comm]
  · rw [if_neg h]
    have e : j = ((stL l).drop 1).length := by omega
    rw [e, getD_at]
theorem en_lo {j : Nat} (hj : j < (stL l).length) : (stL l).getD j 0 < (enL l).getD j 0 := by
  rw [en_at hj]
  split
  · exact (stF' l).up j ‹_›
  · exact (stF' l).lt j hj
theorem en_hi {j : Nat} (hj : j < (stL l).length) : (enL l).getD j 0 ≤ l.length := by
  rw [en_at hj]
  split
  · have := (stF' l).lt (j + 1) ‹_›; omega
  · omega
theorem same_in {j : Nat} (hj : j < (stL l).length) : ∀ k, (stL l).getD j 0 + k < (enL l).getD j 0 → l.getD ((stL l).getD j 0 + k) 0 = l.getD ((stL l).getD j 0) 0
  | 0, _ => rfl
  | k + 1, h => by
    have ih := same_in hj k (by omega)
    have hn : stB l ((stL l).getD j 0 + (k + 1)) = false := by
      rw [en_at hj] at h
      split at h
      · exact (stF' l).mid j ‹_› _ (by omega) h
      · exact (stF' l).last j (by omega) _ (by omega) h
    simp only [stB, Bool.or_eq_false_iff, decide_eq_false_iff_not, ne_eq, Decidable.not_not] at hn
    rw [hn.2, ← ih]
    congr 1
theorem seg_eq {j : Nat} (hj : j < (stL l).length) : (l.drop ((stL l).getD j 0)).take ((enL l).getD j 0 - (stL l).getD j 0) = List.replicate ((enL l).getD j 0 - (stL l).getD j 0) (l.getD ((stL l).getD j 0) 0) := by
  have h1 := en_lo hj
  have h2 := en_hi hj
  apply List.ext_getElem
  · rw [List.length_take, List.length_drop, List.length_replicate]; omega
  · intro i g1 g2
    have hi : i < (enL l).getD j 0 - (stL l).getD j 0 := by simpa using g2
    have := same_in hj i (by omega)
    simp only [List.getElem_take, List.getElem_drop, List.getElem_replicate]
    rw [← this]
    have hlt : (stL l).getD j 0 + i < l.length := by omega
    have key : ∀ q (h : q < l.length), l[q] = l.getD q 0 := fun q h => by simp [h]
    exact key _ hlt
theorem st_ne {j : Nat} (hj : j + 1 < (stL l).length) : l.getD ((stL l).getD (j + 1) 0) 0 ≠ l.getD ((stL l).getD j 0) 0 := by
  have hy := (stF' l).yes (j + 1) hj
  have hu := (stF' l).up j hj
  have he : (enL l).getD j 0 = (stL l).getD (j + 1) 0 := by rw [en_at (by omega), if_pos hj]
  have := same_in (l := l) (j := j) (by omega) ((stL l).getD (j + 1) 0 - 1 - (stL l).getD j 0) (by omega)
  rw [show (stL l).getD j 0 + ((stL l).getD (j + 1) 0 - 1 - (stL l).getD j 0) = (stL l).getD (j + 1) 0 - 1 by omega] at this
  rw [← this]
  simp only [stB, Bool.or_eq_true, beq_iff_eq, decide_eq_true_eq] at hy
  rcases hy with z | z
  · omega
  · exact z
/-- where the loop stands ahead of turn j -/
def atN (l : List Nat) (j : Nat) : Nat := if j < (stL l).length then (stL l).getD j 0 else l.length
theorem atN_zero (h : 1 ≤ l.length) : atN l 0 = 0 := by
  obtain ⟨r, e⟩ := stL_cons h
  unfold atN
  rw [e]
  simp
theorem atN_lt {j : Nat} (hj : j < (stL l).length) : atN l j = (stL l).getD j 0 := if_pos hj
theorem atN_succ {j : Nat} (hj : j < (stL l).length) : atN l (j + 1) = (enL l).getD j 0 := by rw [en_at hj]; rfl
theorem segs (h0 : 1 ≤ l.length) : ∀ n, n ≤ (stL l).length → ((List.range n).map fun j => List.replicate ((enL l).getD j 0 - (stL l).getD j 0) (l.getD ((stL l).getD j 0) 0)).flatten = l.take (atN l n)
  | 0, _ => by rw [atN_zero h0]; rfl
  | n + 1, h => by
    have ih := segs h0 n (by omega)
    have hj : n < (stL l).length := by omega
    rw [List.range_succ, List.map_append, List.flatten_append, ih, atN_succ hj]
    simp only [List.map_cons, List.map_nil, List.flatten_cons, List.flatten_nil, List.append_nil]
    rw [← seg_eq hj]
    have h1 := en_lo hj
    rw [atN_lt hj]
    have e : (enL l).getD n 0 = (stL l).getD n 0 + ((enL l).getD n 0 - (stL l).getD n 0) := by omega
    generalize (stL l).getD n 0 = a at e h1
    generalize (enL l).getD n 0 = b at e h1
    conv => rhs; rw [e, List.take_add]
theorem segs_all (h : 1 ≤ l.length) : ((List.range (stL l).length).map fun j => List.replicate ((enL l).getD j 0 - (stL l).getD j 0) (l.getD ((stL l).getD j 0) 0)).flatten = l := by
  rw [segs h _ (Nat.le_refl _)]
  unfold atN
  rw [if_neg (by omega)]
  simp
theorem st_len : (stL l).length = (chD l).length + if 1 ≤ l.length then 1 else 0 := by
  unfold stL chD
  obtain ⟨n, hn⟩ : ∃ n, l.length = n := ⟨_, rfl⟩
  cases n with
  | zero => rw [hn]; simp
  | succ n =>
    rw [hn, List.range_succ_eq_map, List.filter_cons, if_pos (by simp [stB]), if_pos (by omega)]
    simp only [List.length_cons, Nat.add_sub_cancel]
    congr 1
    generalize List.range n = r
    induction r with
    | nil => rfl
    | cons a r ih =>
      have e : stB l (a + 1) = decide (l.getD (a + 1) 0 ≠ l.getD a 0) := by simp [stB]
      by_cases h : l.getD (a + 1) 0 ≠ l.getD a 0
      · have e2 : stB l (Nat.succ a) = true := by show stB l (a + 1) = true; rw [e]; exact decide_eq_true h
        rw [List.map_cons, List.filter_cons, if_pos e2, List.filterMap_cons]
        simp only [chF, if_pos h, List.length_cons]
        rw [ih]
      · have e2 : ¬ stB l (Nat.succ a) = true := by show ¬ stB l (a + 1) = true; rw [e]; simpa using h
        rw [List.map_cons, List.filter_cons, if_neg e2, List.filterMap_cons]
        simp only [chF, if_neg h]
        rw [ih]
end
theorem spD_at {l : List Nat} {i : Nat} (h : i < (stL l).length) : (spD l)[i]? = spF l i := by
  unfold spD spF
  rw [filterMap_some]
  simp [h]
theorem spD_len (l : List Nat) : (spD l).length = (stL l).length := by
  unfold spD spF
  rw [filterMap_some]
  simp
theorem repT3i {K : PySem.W.Frag} {H : Hp} {t u : Int} {y : List Nat} {v : V} (h : Rep K H (.tup [.int t, .int u, .str y]) v) : ∃ a, v = .ref a ∧ SqT K H a [.int t, .int u, S y] := by
  simp only [Rep, Reps] at h
  obtain ⟨a, xs, rfl, hq, _, _, rfl, rfl, _, _, rfl, rfl, _, _, rfl, rfl, rfl⟩ := h
  exact ⟨a, rfl, hq⟩
theorem for_by {J : It} {g : TG} {tb : TS} {D : Ends} {σ : L2.St} {H1 : Hp} (n : Nat) (Pv : Nat → L2.St → Hp → Prop) (h0 : Pv 0 σ H1) (hgo : ∀ i σ H, i < n → Pv i σ H → J.go i H) (hstop : ∀ σ H, Pv n σ H → J.stop n H)
    (step : ∀ i σ H x H', i < n → Pv i σ H → J.yld i H x H' → g x σ H' fun σ2 H2 => tb { D with nx := Pv (i + 1), ct := Pv (i + 1), bk := D.nx } σ2 H2) (fin : ∀ σ H, Pv n σ H → D.nx σ H) :
    ∃ W : Nat → Nat → L2.St → Hp → Prop, (∃ m, W 0 m σ H1) ∧ ∀ i m σ H, W i m σ H →
      (J.stop i H ∧ D.nx σ H) ∨ (J.go i H ∧ ∃ N : L2.St → Hp → Prop, (∀ σ' H', N σ' H' → ∃ m', m' < m ∧ W (i + 1) m' σ' H') ∧ ∀ x H', J.yld i H x H' → g x σ H' fun σ2 H2 => tb { D with nx := N, ct := N, bk := D.nx } σ2 H2) := by
  refine ⟨fun i m σ H => i ≤ n ∧ m = n - i ∧ Pv i σ H, ⟨n, Nat.zero_le _, rfl, h0⟩, ?_⟩
  rintro i m σ H ⟨hi, rfl, hp⟩
  by_cases h : i < n
  · exact .inr ⟨hgo i σ H h hp, Pv (i + 1), fun σ' H' q => ⟨n - (i + 1), by omega, h, rfl, q⟩, fun x H' y => step i σ H x H' h hp y⟩
  · have e : i = n := by omega
    subst e
    exact .inl ⟨hstop σ H hp, fin σ H hp⟩
end K03

set_option Elab.async false
set_option linter.all false
set_option maxRecDepth 100000
set_option maxHeartbeats 4000000
namespace K03
open PySem L2 PyProof.Rows PySem.W
section
variable {P : Program} {w : World} {K : PySem.W.Frag} {mg : Str → Option Value} {base : Heap} {cTickError cNoTick cUnlike cClash cTooLong cNoWave cNoName cNoText : Addr}

def levels : List Nat := [48, 49, 120]
theorem rep_one (n c : Nat) : (List.replicate n [c]).flatten = List.replicate n c := by
  induction n with
  | zero => rfl
  | succ n ih => rw [List.replicate_succ, List.flatten_cons, ih]; rfl
def rsW (l : List Nat) : List (Int × List Nat) := (List.range (stL l).length).map fun j => ((((enL l).getD j 0 : Nat) - ((stL l).getD j 0 : Nat) : Int), [l.getD ((stL l).getD j 0) 0])
def f8 : Dt → Option Dt
  | .tup [.int _, .int n, .str x] => some (.tup [.int n, .str x])
  | _ => none
theorem f8_eq (l : List Nat) : (spD l).filterMap f8 = rowsD (rsW l) := by
  unfold spD rowsD rsW spF
  rw [filterMap_some, List.map_map]
  generalize List.range (stL l).length = r
  induction r with
  | nil => rfl
  | cons a r ih => simp only [List.map_cons, List.filterMap_cons, f8, ih]; rfl
theorem cap_small {n : Int} (h : n ≤ 13) : cap n = n := by unfold cap; rw [if_neg (by omega)]
theorem ofSp_W {l : List Nat} (h1 : 1 ≤ l.length) (h2 : l.length ≤ 12) : ofSp (rsW l) = l := by
  conv => rhs; rw [← segs_all h1]
  unfold ofSp rsW
  rw [List.map_map]
  congr 1
  refine List.map_congr_left fun j hj => ?_
  have hj' : j < (stL l).length := by simpa using hj
  have e1 := en_lo hj'
  have e2 := en_hi hj'
  show (List.replicate (cap (((enL l).getD j 0 : Nat) - ((stL l).getD j 0 : Nat) : Int)).toNat [l.getD ((stL l).getD j 0) 0]).flatten = _
  rw [cap_small (by omega), rep_one]
  congr 1
  omega
theorem rsW_ok {l : List Nat} (h2 : l.length ≤ 12) : ∀ r ∈ rsW l, 0 ≤ r.1 ∧ r.1 ≤ 1000 ∧ r.2.length = 1 := by
  intro r hr
  obtain ⟨j, hj, rfl⟩ := List.mem_map.mp hr
  have hj' : j < (stL l).length := by simpa using hj
  have e1 := en_lo hj'
  have e2 := en_hi hj'
  exact ⟨by show (0 : Int) ≤ _ - _; omega, by show _ - _ ≤ (1000 : Int); omega, rfl⟩
theorem madeA_W {l : List Nat} (h1 : 1 ≤ l.length) (h2 : l.length ≤ 12) : madeA (rsW l) = l := by
  unfold madeA
  rw [ofSp_W h1 h2, if_pos ⟨h1, h2⟩]
/-- the drawn rows -/
def rowZ (ns : List Int) (k : Nat) : Int × List Nat := (pickZ ns (2 + 2 * (0 + (k : Int))) 6, [signZ ns (3 + 2 * (0 + (k : Int))) levels])
def rsZ (ns : List Int) (n : Nat) : List (Int × List Nat) := (List.range n).map (rowZ ns)
theorem rsZ_succ (ns : List Int) (n : Nat) : rsZ ns (n + 1) = rsZ ns n ++ [rowZ ns n] := by unfold rsZ; rw [List.range_succ, List.map_append]; rfl
theorem rsZ_ok (ns : List Int) (n : Nat) : ∀ r ∈ rsZ ns n, 0 ≤ r.1 ∧ r.1 ≤ 5 ∧ r.2.length = 1 := by
  intro r hr
  obtain ⟨j, _, rfl⟩ := List.mem_map.mp hr
  have a1 := pickZ_lo ns (2 + 2 * (0 + (j : Int))) (many := 6) (by decide)
  have a2 := pickZ_hi ns (2 + 2 * (0 + (j : Int))) (many := 6) (by decide)
  exact ⟨a1, by show pickZ ns (2 + 2 * (0 + (j : Int))) 6 ≤ 5; omega, rfl⟩
theorem rowsD_app (a b : List (Int × List Nat)) : rowsD (a ++ b) = rowsD a ++ rowsD b := by unfold rowsD; rw [List.map_append]
theorem ofSp_app (a b : List (Int × List Nat)) : ofSp (a ++ b) = ofSp a ++ ofSp b := by unfold ofSp; rw [List.map_append, List.flatten_append]
theorem seg_cut {l : List Nat} {j : Nat} (hj : j < (stL l).length) : cutN l (some ((stL l).getD j 0 : Nat)) (some (((stL l).getD j 0 : Nat) + (((enL l).getD j 0 : Nat) - ((stL l).getD j 0 : Nat) : Int))) = (List.replicate (((enL l).getD j 0 : Nat) - ((stL l).getD j 0 : Nat) : Int).toNat [l.getD ((stL l).getD j 0) 0]).flatten := by
  have h1 := en_lo hj
  have h2 := en_hi hj
  have h3 := seg_eq hj
  rw [cut_mid l (by omega) (by omega) (by omega), rep_one]
  generalize l.getD ((stL l).getD j 0) 0 = c at *
  generalize (stL l).getD j 0 = s at *
  generalize (enL l).getD j 0 = e at *
  rw [show ((s : Nat) : Int).toNat = s by omega, show ((s : Int) + ((e : Int) - (s : Int))).toNat - s = e - s by omega, show ((e : Int) - (s : Int)).toNat = e - s by omega]
  exact h3

theorem sc_law : FnScope ["_law_script", "_law_wave_here", "_law_rows", "_law_at", "_law_k", "_law_start", "_law_size", "_law_level", "_law_some", "_law_due", "_law_many", "_law_again"] ["_law_script"] (defScope s_law) := ⟨rfl, rfl, rfl, by decide +kernel, rfl, by decide +kernel, by decide +kernel⟩
theorem ok_law (T : Tx K mg cTickError cNoTick cUnlike cClash cTooLong cNoWave cNoName cNoText) {f : Addr} {fd : FuncData} (F : Fun K "law" "law" s_law f fd) : FnOk P w K mg base CX0 5 f fd ["_law_script"] (spLaw K) := by
  have SC := sc_law
  have CL_wave := ok__law_wave (P := P) (w := w) (base := base) T
  have Cspans := ok_spans (P := P) (w := w) (base := base) T
  have CL_made := ok__law_made (P := P) (w := w) (base := base) T
  have CL_pick := ok__law_pick (P := P) (w := w) (base := base) T
  have Cchanges := ok_changes (P := P) (w := w) (base := base) T
  refine F.ok SC (fun vs H Q E h => ?_) (fun cdv A outer s H vs Q E hr h => ?_)
  · obtain ⟨a, ns, rfl, _⟩ := h
    rfl
  · obtain ⟨a, ns, rfl, hS, q⟩ := h
    have s0 : Same H H := .refl _
    refine ⟨_, (pss_cons (ps_set (i := 1) SC.nd rfl (Or.inl rfl) (pe_cal CL_wave (hr.mono (by decide)) pass0 (@pax _ _ _ _ _ rfl (pv 0) (@pax _ _ _ _ _ rfl pe_int (@pax _ _ _ _ _ rfl (pe_op op_add pe_int (pe_cal CL_pick (hr.mono (by decide)) pass0 (@pax _ _ _ _ _ rfl (pv 0) (@pax _ _ _ _ _ rfl pe_int (@pax _ _ _ _ _ rfl pe_int pa_nil))))) (@pax _ _ _ _ _ rfl (pe_S (l := [48, 49, 120])) pa_nil))))))
      (pss_cons (ps_set (i := 2) SC.nd rfl (Or.inl rfl) (pe_cal Cspans (hr.mono (by decide)) pass0 (@pax _ _ _ _ _ rfl (pv 1) pa_nil)))
      (pss_cons (ps_set (i := 3) SC.nd rfl (Or.inl rfl) pe_int)
      (pss_cons (ps_for PassesOwn.never rfl (pi_enum rfl T.enumerate (@pax _ _ _ _ _ rfl (pv 2) pa_nil)) (pg_tup rfl (pgs_cons (pg_name (i := 4) SC.nd rfl (Or.inl rfl)) (pgs_cons (pg_tup rfl (pgs_cons (pg_name (i := 5) SC.nd rfl (Or.inl rfl)) (pgs_cons (pg_name (i := 6) SC.nd rfl (Or.inl rfl)) (pgs_cons (pg_name (i := 7) SC.nd rfl (Or.inl rfl)) pgs_nil)))) pgs_nil))) (pss_cons (ps_if (PW.pt (pw_or (pt_cmpR op_ne (pv 5) (pv 3) (nomark _)) (pw_or (pt_cmpR op_lt (pv 6) pe_int (nomark _)) (pw_or1 (pt_cmpR op_ne (pe_slice sl_S (pv 1) (po_some (pv 5)) (po_some (pe_op op_add (pv 5) (pv 6)))) (pe_op op_repS (pv 7) (pv 6)) (nomark _)))))) (pss_one (ps_ret pe_bl)) pss_nil)
      (pss_cons (ps_if (PW.pt (pw_and (pt_cmpR op_gt (pv 4) pe_int (nomark _)) (pw_and1 (pt_cmpR op_eq (pe_ix ix_tup (pe_ix ix_list (pv 2) (pe_op op_sub (pv 4) pe_int) (fun _ _ => rfl)) pe_int (fun _ _ => rfl)) (pv 7) (nomark _))))) (pss_one (ps_ret pe_bl)) pss_nil)
      (pss_one (ps_set (i := 3) SC.nd rfl (Or.inl rfl) (pe_op op_add (pv 3) (pv 6)))))))
      (pss_cons (ps_if (PW.pt (pw_or (pt_cmpR op_ne (pv 3) (pe_callB call_lenS (by rfl) T.len PySem.boot_len (@pax _ _ _ _ _ rfl (pv 1) pa_nil)) (nomark _)) (pw_or1 (pt_cmpR op_ne (pe_callB call_len_seq (by rfl) T.len PySem.boot_len (@pax _ _ _ _ _ rfl (pv 2) pa_nil)) (pe_op op_add (pe_callB call_len_seq (by rfl) T.len PySem.boot_len (@pax _ _ _ _ _ rfl (pe_cal Cchanges (hr.mono (by decide)) pass0 (@pax _ _ _ _ _ rfl (pv 1) pa_nil)) pa_nil)) pe_int) (nomark _))))) (pss_one (ps_ret pe_bl)) pss_nil)
      (pss_cons (ps_if (pt_cmpR op_ne (pe_cal CL_made (hr.mono (by decide)) pass0 (@pax _ _ _ _ _ rfl (pe_comp (N := ["_law_start", "_law_size", "_law_level"]) (k := 3) (fr := []) rfl ⟨rfl, rfl, rfl, rfl, rfl, rfl⟩ (pi_list (pv 2)) (fun _ _ _ _ => (pg_tupK (K := K) (n := 3) rfl rfl (pgs_cons (pg_name (i := 0) (show List.Nodup (α := Str) ["_law_start", "_law_size", "_law_level"] from by decide +kernel) rfl (Or.inl rfl) (Or.inr rfl)) (pgs_cons (pg_name (i := 1) (show List.Nodup (α := Str) ["_law_start", "_law_size", "_law_level"] from by decide +kernel) rfl (Or.inl rfl) (Or.inr rfl)) (pgs_cons (pg_name (i := 2) (show List.Nodup (α := Str) ["_law_start", "_law_size", "_law_level"] from by decide +kernel) rfl (Or.inl rfl) (Or.inr rfl)) pgs_nil))) rfl rfl)) (fun _ _ _ _ => pts_nil) (fun _ _ _ _ => (pe_tup (@pax _ _ _ _ _ rfl (pv 1) (@pax _ _ _ _ _ rfl (pv 2) pa_nil))))) pa_nil)) (pv 1) (nomark _)) (pss_one (ps_ret pe_bl)) pss_nil)
      (pss_cons (ps_set (i := 8) SC.nd rfl (Or.inl rfl) (pe_lst pa_nil))
      (pss_cons (ps_for PassesOwn.never rfl (pi_range1 rfl T.range (@pax _ _ _ _ _ rfl (pe_cal CL_pick (hr.mono (by decide)) pass0 (@pax _ _ _ _ _ rfl (pv 0) (@pax _ _ _ _ _ rfl pe_int (@pax _ _ _ _ _ rfl pe_int pa_nil)))) pa_nil)) (pg_name (i := 4) SC.nd rfl (Or.inl rfl)) (pss_one (ps_expr (pe_bm PySem.F.plainAttrs_list PySem.F.slot_list_append PySem.F.type_list_append mt_append (pv 8) (@pax _ _ _ _ _ rfl (pe_tup (@pax _ _ _ _ _ rfl (pe_cal CL_pick (hr.mono (by decide)) pass0 (@pax _ _ _ _ _ rfl (pv 0) (@pax _ _ _ _ _ rfl (pe_op op_add pe_int (pe_op op_mul pe_int (pv 4))) (@pax _ _ _ _ _ rfl pe_int pa_nil)))) (@pax _ _ _ _ _ rfl (pe_ix ix_S (pe_S (l := [48, 49, 120])) (pe_cal CL_pick (hr.mono (by decide)) pass0 (@pax _ _ _ _ _ rfl (pv 0) (@pax _ _ _ _ _ rfl (pe_op op_add pe_int (pe_op op_mul pe_int (pv 4))) (@pax _ _ _ _ _ rfl pe_int pa_nil)))) (fun _ _ => rfl)) pa_nil))) pa_nil)))))
      (pss_cons (ps_set (i := 9) SC.nd rfl (Or.inl rfl) (pe_S (l := [])))
      (pss_cons (ps_for PassesOwn.never rfl (pi_list (pv 8)) (pg_tup rfl (pgs_cons (pg_name (i := 10) SC.nd rfl (Or.inl rfl)) (pgs_cons (pg_name (i := 7) SC.nd rfl (Or.inl rfl)) pgs_nil))) (pss_one (ps_for PassesOwn.never rfl (pi_range1 rfl T.range (@pax _ _ _ _ _ rfl (pv 10) pa_nil)) (pg_name (i := 11) SC.nd rfl (Or.inl rfl)) (pss_one (ps_set (i := 9) SC.nd rfl (Or.inl rfl) (pe_op op_addS (pv 9) (pv 7)))))))
      (pss_one (ps_ret (pe_cmpR op_eq (pe_cal CL_made (hr.mono (by decide)) pass0 (@pax _ _ _ _ _ rfl (pv 8) pa_nil)) (pe_ifExp (pt_chain op_le op_le pe_int (pe_callB call_lenS (by rfl) T.len PySem.boot_len (@pax _ _ _ _ _ rfl (pv 9) pa_nil)) pe_int) (pv 9) (pe_S (l := [116, 111, 111, 32, 108, 111, 110, 103]))) (nomark _)))))))))))))), ?_⟩
    have p0 := pickZ_lo ns 0 (many := 12) (by decide)
    have p1 := pickZ_hi ns 0 (many := 12) (by decide)
    refine ⟨_, rfl, _, rfl, a, ns, 0, 12, rfl, hS, by decide, by decide, fun H1 s1 => ⟨_, _, rfl, rfl, ?_⟩⟩
    refine ⟨a, ns, 10, _, levels, rfl, hS.mono s1, by decide, by omega, by omega, by decide, by decide, fun H2 s2' => ?_⟩
    have s2 := s1.trans s2'
    have wl := waveL_length ns 10 (many := 1 + pickZ ns 0 12) levels (by omega)
    have wm := waveL_mem ns 10 (1 + pickZ ns 0 12) (sg := levels) (by decide)
    generalize waveL ns 10 (1 + pickZ ns 0 12) levels = W at wl wm
    have hz : W.length ≤ sizeLine := big _ (by omega)
    have w1 : 1 ≤ W.length := by omega
    have w12 : W.length ≤ 12 := by omega
    have stl := stL_len W
    refine ⟨_, rfl, W, rfl, w1, by omega, fun D3 H3 r3 s3' => ?_⟩
    have s3 := s2.trans s3'
    obtain ⟨a3, xs3, e3, hq3, rr3⟩ := (by simpa only [Rep] using r3 : ∃ a' xs, V.ref D3 = .ref a' ∧ SqL K H3 a' xs ∧ Reps K H3 (spD W) xs)
    cases e3
    have lx : xs3.length = (stL W).length := by rw [← rr3.length, spD_len]
    -- the loop
    refine ⟨_, rfl, D3, _, rfl, hq3, ?_⟩
    refine for_by (stL W).length (fun i σ H' => ∃ v4 v5 v6 v7, σ = [some (.ref a), some (S W), some (.ref D3), some (.int (atN W i : Nat)), v4, v5, v6, v7, none, none, none, none] ∧ Same H3 H') ⟨none, none, none, none, by rw [atN_zero w1]; rfl, .refl _⟩ (fun i σ H' hi ⟨_, _, _, _, _, sm⟩ => ⟨_, sm.seq hq3, by omega⟩) (fun σ H' ⟨_, _, _, _, _, sm⟩ => ⟨_, sm.seq hq3, by omega⟩) ?_ ?_
    · rintro i σ H4 x H5 hi ⟨v4, v5, v6, v7, rfl, sm⟩ ⟨T, v, rfl, hT, rfl, hv⟩
      have hv' := hv _ (sm.seq hq3)
      obtain ⟨d, hd, rd⟩ := rr3.get hv'
      rw [spD_at hi] at hd
      cases hd
      obtain ⟨pr, rfl, hTr⟩ := repT3i rd
      have sT : Same H3 (upd H4 T (.tup [.int (i : Nat), .ref pr])) := sm.trans (.upd hT)
      have lo := en_lo hi
      have hi2 := en_hi hi
      refine ⟨T, _, rfl, .of upd_same, rfl, _, _, rfl, _, _, rfl, ⟨pr, _, rfl, sT.seqT hTr, rfl, _, _, rfl, _, _, rfl, _, _, rfl, rfl, rfl, ?_⟩⟩
      rw [atN_lt hi]
      refine ⟨_, rfl, _, rfl, rfl, _, rfl, ?_⟩
      refine ite2 (fun h => absurd h (by simp)) (fun _ => ?_)
      refine ⟨_, rfl, _, _, rfl, rfl, _, rfl, ?_⟩
      refine ite2 (fun h => absurd h (by rw [decide_eq_true_eq]; omega)) (fun _ => ?_)
      refine ⟨_, rfl, _, rfl, _, rfl, _, rfl, _, rfl, _, _, rfl, rfl, _, rfl, W, rfl, hz, _, rfl, _, rfl, _, _, rfl, rfl, by omega, by omega, by simp, rfl, _, rfl, ?_⟩
      rw [S_dec, seg_cut hi]
      refine ite2 (fun h => absurd h (by simp)) (fun _ => ?_)
      have nxt : ∀ H7, Same H3 H7 → ∃ u4 u5 u6 u7, [some (V.ref a), some (S W), some (V.ref D3), some (V.int (((stL W).getD i 0 : Nat) + (((enL W).getD i 0 : Nat) - ((stL W).getD i 0 : Nat) : Int))), some (V.int (i : Nat)), some (V.int ((stL W).getD i 0 : Nat)), some (V.int (((enL W).getD i 0 : Nat) - ((stL W).getD i 0 : Nat) : Int)), some (S [W.getD ((stL W).getD i 0) 0]), none, none, none, none] = [some (.ref a), some (S W), some (.ref D3), some (.int (atN W (i + 1) : Nat)), u4, u5, u6, u7, none, none, none, none] ∧ Same H3 H7 := fun H7 s7 => by
        rw [atN_succ hi, show (((stL W).getD i 0 : Nat) : Int) + (((enL W).getD i 0 : Nat) - ((stL W).getD i 0 : Nat) : Int) = ((enL W).getD i 0 : Nat) by omega]
        exact ⟨_, _, _, _, rfl, s7⟩
      refine ⟨_, rfl, _, _, rfl, rfl, _, rfl, ?_⟩
      refine ite2 (fun hk => ?_) (fun hk => ?_)
      · have hk' : 0 < i := by
          have : (0 : Int) < (i : Int) := by simpa using hk
          omega
        have hx1 : xs3[i - 1]? = some (xs3[i - 1]'(by omega)) := by simp
        obtain ⟨d', hd', rd'⟩ := rr3.get hx1
        rw [spD_at (by omega)] at hd'
        cases hd'
        obtain ⟨pr', epr, hTr'⟩ := repT3i rd'
        have at1 : atI xs3 ((i : Int) - 1) = some (.ref pr') := by
          rw [show (i : Int) - 1 = ((i - 1 : Nat) : Int) by omega]
          refine atI_nat ?_
          rw [hx1, epr]
        refine ⟨_, rfl, _, rfl, _, _, rfl, rfl, D3, xs3, _, _, rfl, rfl, sT.seq hq3, at1, pr', _, _, _, rfl, rfl, sT.seqT hTr', rfl, _, rfl, rfl, _, rfl, ?_⟩
        rw [S_dec]
        have ne : ¬ ([W.getD ((stL W).getD (i - 1) 0) 0] = [W.getD ((stL W).getD i 0) 0]) := by
          have := st_ne (l := W) (j := i - 1) (by omega)
          rw [show i - 1 + 1 = i by omega] at this
          intro z
          exact this (List.cons.inj z).1.symm
        refine ite2 (fun h => absurd h (by rw [decide_eq_true_eq]; exact ne)) (fun _ => ?_)
        exact ⟨_, rfl, _, rfl, _, _, rfl, rfl, nxt _ sT⟩
      · refine iteF ?_
        exact ⟨_, rfl, _, rfl, _, _, rfl, rfl, nxt _ sT⟩
    · rintro σ H6 ⟨v4, v5, v6, v7, rfl, sm⟩
      have eA : atN W (stL W).length = W.length := by unfold atN; rw [if_neg (by omega)]
      rw [eA]
      refine ⟨_, rfl, _, rfl, W, rfl, hz, rfl, _, rfl, ?_⟩
      refine ite2 (fun h => absurd h (by simp)) (fun _ => ?_)
      refine ⟨_, rfl, D3, _, rfl, .inl (sm.seq hq3), _, rfl, W, rfl, by omega, fun D7 H7 r7 s7' => ?_⟩
      obtain ⟨a7, xs7, e7, hq7, rr7⟩ := (by simpa only [Rep] using r7 : ∃ a' xs, V.ref D7 = .ref a' ∧ SqL K H7 a' xs ∧ Reps K H7 (chD W) xs)
      cases e7
      refine ⟨D7, _, rfl, .inl hq7, _, _, rfl, rfl, rfl, _, rfl, ?_⟩
      have l7 : xs3.length = xs7.length + 1 := by
        rw [lx, ← rr7.length, st_len, if_pos w1]
      have e7 : (!decide (V.int (xs3.length : Nat) = V.int ((xs7.length : Nat) + 1))) = false := by rw [l7]; simp
      refine ite2 (fun h => absurd h (by show ¬ (!decide (V.int (xs3.length : Nat) = V.int ((xs7.length : Nat) + 1))) = true; rw [e7]; decide)) (fun _ => ?_)
      have sm7 := sm.trans s7'
      -- made of the rows
      refine ⟨_, rfl, D3, rfl, ⟨_, sm7.seq hq3⟩, ?_⟩
      refine comp_list (K := K) (spD W) f8 [] rfl (r3.mono sm7) (big _ (by rw [spD_len]; omega)) ?_ ?_
      · intro D own ys Hc y d hd rd Kt Kf ho smc hD2 hD1 sy kt kf
        obtain ⟨o1, o2, o3, rfl⟩ := own3 ho
        obtain ⟨j, hj, hjd⟩ := List.mem_filterMap.mp hd
        cases hjd
        obtain ⟨p, rfl, hT⟩ := repT3i rd
        refine ⟨p, _, rfl, hT, rfl, _, _, rfl, _, _, rfl, _, _, rfl, rfl, ?_⟩
        refine ⟨_, rfl, _, rfl, big 2, fun p4 hp4 => ?_⟩
        refine kt [_, _, _] (.ref p4) _ _ rfl (.upd hp4) rfl ?_
        exact rep_tupD hD2 hp4 (.cons rep_int (.cons rep_str .nil))
      intro D8 H8 r8 s8'
      rw [f8_eq] at r8
      have sm8 := sm7.trans s8'
      refine ⟨D8, rsW W, rfl, r8, by simp [rsW]; omega, rsW_ok w12, fun H9 s9' => ?_⟩
      rw [madeA_W w1 w12]
      refine ⟨_, rfl, rfl, _, rfl, ?_⟩
      refine ite2 (fun h => absurd h (by simp)) (fun _ => ?_)
      have sm9 := s3.trans (sm8.trans s9')
      -- some rows
      refine ⟨big 0, fun p10 hp10 => ?_⟩
      have k0 := pickZ_lo ns 1 (many := 5) (by decide)
      have k1 := pickZ_hi ns 1 (many := 5) (by decide)
      refine ⟨_, rfl, a, ns, 1, 5, rfl, hS.mono (sm9.trans (.upd hp10)), by decide, by decide, fun H11 s11 => ⟨_, rfl, by omega, by omega, ?_⟩⟩
      generalize pickZ ns 1 5 = kk at k0 k1
      refine for_range (lo := 0) (n := kk.toNat) (fun i σ H' => ∃ v4 xs, σ = [some (.ref a), some (S W), some (.ref D3), some (.int (W.length : Nat)), v4, v5, v6, v7, some (.ref p10), none, none, none] ∧ Same H9 H' ∧ H' p10 = some (.lst xs) ∧ Reps K (del H' p10) (rowsD (rsZ ns i)) xs ∧ xs.length = i)
        ⟨_, [], rfl, (Same.upd hp10).trans s11, s11 _ _ upd_same, .nil, rfl⟩ ?_ ?_
      · rintro i σ Ha hi ⟨v4', xs, rfl, sa, hx, rx, lxs⟩
        refine ⟨_, rfl, .inl ⟨rfl, _, .of hx⟩, _, rfl, _, rfl, _, _, rfl, rfl, .inl (by decide), _, _, rfl, rfl, a, ns, _, 6, rfl, hS.mono (sm9.trans sa), by omega, by decide, fun Hb sb => ?_⟩
        refine ⟨_, rfl, _, rfl, _, _, rfl, rfl, .inl (by decide), _, _, rfl, rfl, a, ns, _, 3, rfl, (hS.mono (sm9.trans sa)).mono sb, by omega, by decide, fun Hc sc => ⟨levels, _, _, rfl, rfl, big 3, signZ_at ns _ (sg := levels) (by decide), big 2, fun p hp => ?_⟩⟩
        have hxc := (sb.trans sc) _ _ hx
        have hxp : upd Hc p (.tup [.int (pickZ ns (2 + 2 * (0 + (i : Int))) 6), S [signZ ns (3 + 2 * (0 + (i : Int))) levels]]) p10 = some (.lst xs) := Same.upd hp _ _ hxc
        refine ⟨p10, xs, _, rfl, rfl, hxp, by have := big 100; omega, ?_⟩
        refine ⟨_, xs ++ [.ref p], rfl, fun b o e => ?_, upd_same, ?_, by simp [lxs]⟩
        · rw [upd_ne (ne_of_none e hp10)]
          exact (sa.trans ((sb.trans sc).trans (.upd hp))) b o e
        · rw [del_upd, rsZ_succ, rowsD_app]
          refine Reps.append (rx.mono (((sb.trans sc).trans (.upd hp)).del p10)) ?_
          refine .cons ?_ .nil
          exact rep_tupD hxc hp (.cons rep_int (.cons rep_str .nil))
      rintro σ H12 ⟨v4', xs, rfl, sa, hx, rx, lxs⟩
      have r12 : Rep K H12 (.lst (rowsD (rsZ ns kk.toNat))) (.ref p10) := rep_lst hx (rx.mono del_same)
      have rx' : Reps K H12 (rowsD (rsZ ns kk.toNat)) xs := rx.mono del_same
      have ok5 := rsZ_ok ns kk.toNat
      -- due
      refine ⟨_, rfl, p10, rfl, ⟨_, .of hx⟩, ?_⟩
      refine for_by kk.toNat (fun i σ H' => ∃ u7 u10 u11, σ = [some (.ref a), some (S W), some (.ref D3), some (.int (W.length : Nat)), v4', v5, v6, u7, some (.ref p10), some (S (ofSp (rsZ ns i))), u10, u11] ∧ Same H12 H') ⟨_, _, _, rfl, .refl _⟩ (fun i σ H' hi ⟨_, _, _, _, sm⟩ => ⟨xs, xs[i]'(by omega), sm.seq (.of hx), by simp⟩) (fun σ H' ⟨_, _, _, _, sm⟩ => ⟨xs, sm.seq (.of hx), by omega⟩) ?_ ?_
      · rintro i σ Ha x Hb hi ⟨u7, u10, u11, rfl, sb⟩ ⟨rfl, hv⟩
        have hv' := hv _ (sb.seq (.of hx))
        obtain ⟨d, hd, rd⟩ := rx'.get hv'
        have hd' : (rowsD (rsZ ns kk.toNat))[i]? = some (.tup [.int (rowZ ns i).1, .str (rowZ ns i).2]) := by
          unfold rowsD rsZ
          simp [hi]
        rw [hd'] at hd
        cases hd
        obtain ⟨p, rfl, hT⟩ := repT2 (rd.mono sb)
        have hok := rsZ_ok ns (i + 1) (rowZ ns i) (by rw [rsZ_succ]; simp)
        have hln := ofSp_len (rs := rsZ ns i) fun r hr => by have := rsZ_ok ns i r hr; exact ⟨this.1, by omega, this.2.2⟩
        have hli : (rsZ ns i).length = i := by simp [rsZ]
        refine ⟨p, _, rfl, hT, rfl, _, _, rfl, _, _, rfl, rfl, ?_⟩
        refine ⟨_, rfl, _, rfl, by omega, by omega, ?_⟩
        refine for_range (lo := 0) (n := (rowZ ns i).1.toNat) (fun j σ H' => ∃ z11, σ = [some (.ref a), some (S W), some (.ref D3), some (.int (W.length : Nat)), v4', v5, v6, some (S (rowZ ns i).2), some (.ref p10), some (S (ofSp (rsZ ns i) ++ (List.replicate j (rowZ ns i).2).flatten)), some (.int (rowZ ns i).1), z11] ∧ Same H12 H') ⟨u11, by simp, sb⟩ ?_ ?_
        · rintro j σ Hc hj ⟨z11, rfl, sc⟩
          have hrl : ((List.replicate j (rowZ ns i).2).flatten).length ≤ 100 := by simp [hok.2.2]; omega
          refine ⟨_, rfl, _, rfl, _, _, rfl, rfl, big _ (by rw [List.length_append, hok.2.2]; omega), ?_⟩
          refine ⟨some (.int (0 + (j : Int))), ?_, sc⟩
          rw [List.replicate_succ', List.flatten_append]
          simp only [List.flatten_cons, List.flatten_nil, List.append_nil, ← List.append_assoc]
          rfl
        · rintro σ Hc ⟨z11, rfl, sc⟩
          have e : ofSp (rsZ ns (i + 1)) = ofSp (rsZ ns i) ++ (List.replicate (rowZ ns i).1.toNat (rowZ ns i).2).flatten := by
            rw [rsZ_succ, ofSp_app]
            congr 1
            show (List.replicate (cap (rowZ ns i).1).toNat (rowZ ns i).2).flatten ++ [] = _
            rw [cap_small (by omega), List.append_nil]
          show ∃ u7 u10 u11, _ = _ ∧ _
          rw [e]
          exact ⟨_, _, _, rfl, sc⟩
      · rintro σ Hd ⟨u7, u10, u11, rfl, sd⟩
        have hln := ofSp_len (rs := rsZ ns kk.toNat) fun r hr => by have := rsZ_ok ns kk.toNat r hr; exact ⟨this.1, by omega, this.2.2⟩
        have hli : (rsZ ns kk.toNat).length = kk.toNat := by simp [rsZ]
        refine ⟨_, rfl, p10, rsZ ns kk.toNat, rfl, r12.mono sd, by omega, fun r hr => by have := rsZ_ok ns kk.toNat r hr; exact ⟨this.1, by omega, this.2.2⟩, fun He se => ?_⟩
        unfold madeA
        generalize ofSp (rsZ ns kk.toNat) = L at hln
        have yes : ∀ X : List Nat, (if 1 ≤ L.length ∧ L.length ≤ 12 then L else wordL 5) = X → Q (.bl (decide (S (if 1 ≤ L.length ∧ L.length ≤ 12 then L else wordL 5) = S X))) He := fun X e => by
          rw [e, decide_eq_true rfl]
          exact q _
        refine ⟨_, rfl, L, rfl, big _ (by omega), _, _, rfl, rfl, _, rfl, ?_⟩
        refine ite2 (fun h1 => ?_) (fun h1 => ?_)
        · have h1' : 1 ≤ L.length := by
            have : (1 : Int) ≤ L.length := by simpa using h1
            omega
          refine ⟨_, _, rfl, rfl, _, rfl, ?_⟩
          refine ite2 (fun h2 => ?_) (fun h2 => ?_)
          · have h2' : L.length ≤ 12 := by
              have : (L.length : Int) ≤ 12 := by simpa using h2
              omega
            exact ⟨_, rfl, rfl, yes L (if_pos ⟨h1', h2'⟩)⟩
          · have h2' : ¬ L.length ≤ 12 := by
              have : ¬ (L.length : Int) ≤ 12 := by simpa using h2
              omega
            exact ⟨rfl, yes _ (if_neg fun z => h2' z.2)⟩
        · have h1' : ¬ 1 ≤ L.length := by
            have : ¬ (1 : Int) ≤ L.length := by simpa using h1
            omega
          exact ⟨_, rfl, iteF ⟨rfl, yes _ (if_neg fun z => h1' z.1)⟩⟩
end
theorem all_mk {l : PySem.W.OpenLaw} {w : World} {K : PySem.W.Frag} {h : Heap} {mg : Str → Option Value} {fa : Addr} (X : K.In h) (G : h.Ns mainGlobals mg) (hfa : mg "law" = some (.ref fa))
    {od0 an0 : Option Addr} {sl0 : Array (Option Value)} {oc0 kV0 dc0 pm0 cd0 ct0 : Value} {a0 : Addr}
    {od1 an1 : Option Addr} {sl1 : Array (Option Value)} {oc1 kV1 dc1 pm1 cd1 ct1 : Value} {a1 : Addr}
    {od2 an2 : Option Addr} {sl2 : Array (Option Value)} {oc2 kV2 dc2 pm2 cd2 ct2 : Value} {a2 : Addr}
    {od3 an3 : Option Addr} {sl3 : Array (Option Value)} {oc3 kV3 dc3 pm3 cd3 ct3 : Value} {a3 : Addr}
    {od4 an4 : Option Addr} {sl4 : Array (Option Value)} {oc4 kV4 dc4 pm4 cd4 ct4 : Value} {a4 : Addr}
    {od5 an5 : Option Addr} {sl5 : Array (Option Value)} {oc5 kV5 dc5 pm5 cd5 ct5 : Value} {a5 : Addr}
    {od6 an6 : Option Addr} {sl6 : Array (Option Value)} {oc6 kV6 dc6 pm6 cd6 ct6 : Value} {a6 : Addr}
    {od7 an7 : Option Addr} {sl7 : Array (Option Value)} {oc7 kV7 dc7 pm7 cd7 ct7 : Value} {a7 : Addr}
    {od8 an8 : Option Addr} {sl8 : Array (Option Value)} {oc8 kV8 dc8 pm8 cd8 ct8 : Value} {a8 : Addr}
    {od9 an9 : Option Addr} {sl9 : Array (Option Value)} {oc9 kV9 dc9 pm9 cd9 ct9 : Value} {a9 : Addr}
    {od10 an10 : Option Addr} {sl10 : Array (Option Value)} {oc10 kV10 dc10 pm10 cd10 ct10 : Value} {a10 : Addr}
    {cTickError : Addr}
    {cNoTick : Addr}
    {cUnlike : Addr}
    {cClash : Addr}
    {cTooLong : Addr}
    {cNoWave : Addr}
    {cNoName : Addr}
    {cNoText : Addr}
    {t_MOST_TICKS : Tok}
    (a0_ : PySem.W.nsIn K mainGlobals "_law_cell" = some (some (.ref a0))) (l0 : K.lookup a0 = some ⟨oc0, od0, .func (PySem.W.fnOf "_law_cell" "_law_cell" (defArgs s_law_cell) (defBody s_law_cell) (defScope s_law_cell) .none kV0 dc0 pm0 an0 cd0 ct0), sl0⟩) (c0 : PySem.W.codeIn K cd0 "_law_cell" = true) (k0 : PySem.W.keepIn K (.ref a0) = true)
    (a1_ : PySem.W.nsIn K mainGlobals "_law_pick" = some (some (.ref a1))) (l1 : K.lookup a1 = some ⟨oc1, od1, .func (PySem.W.fnOf "_law_pick" "_law_pick" (defArgs s_law_pick) (defBody s_law_pick) (defScope s_law_pick) .none kV1 dc1 pm1 an1 cd1 ct1), sl1⟩) (c1 : PySem.W.codeIn K cd1 "_law_pick" = true) (k1 : PySem.W.keepIn K (.ref a1) = true)
    (a2_ : PySem.W.nsIn K mainGlobals "_law_wave" = some (some (.ref a2))) (l2 : K.lookup a2 = some ⟨oc2, od2, .func (PySem.W.fnOf "_law_wave" "_law_wave" (defArgs s_law_wave) (defBody s_law_wave) (defScope s_law_wave) .none kV2 dc2 pm2 an2 cd2 ct2), sl2⟩) (c2 : PySem.W.codeIn K cd2 "_law_wave" = true) (k2 : PySem.W.keepIn K (.ref a2) = true)
    (a3_ : PySem.W.nsIn K mainGlobals "refuse_too_long" = some (some (.ref a3))) (l3 : K.lookup a3 = some ⟨oc3, od3, .func (PySem.W.fnOf "refuse_too_long" "refuse_too_long" (defArgs s_refuse_too_long) (defBody s_refuse_too_long) (defScope s_refuse_too_long) .none kV3 dc3 pm3 an3 cd3 ct3), sl3⟩) (c3 : PySem.W.codeIn K cd3 "refuse_too_long" = true) (k3 : PySem.W.keepIn K (.ref a3) = true)
    (a4_ : PySem.W.nsIn K mainGlobals "not_too_long" = some (some (.ref a4))) (l4 : K.lookup a4 = some ⟨oc4, od4, .func (PySem.W.fnOf "not_too_long" "not_too_long" (defArgs s_not_too_long) (defBody s_not_too_long) (defScope s_not_too_long) .none kV4 dc4 pm4 an4 cd4 ct4), sl4⟩) (c4 : PySem.W.codeIn K cd4 "not_too_long" = true) (k4 : PySem.W.keepIn K (.ref a4) = true)
    (a5_ : PySem.W.nsIn K mainGlobals "changes" = some (some (.ref a5))) (l5 : K.lookup a5 = some ⟨oc5, od5, .func (PySem.W.fnOf "changes" "changes" (defArgs s_changes) (defBody s_changes) (defScope s_changes) .none kV5 dc5 pm5 an5 cd5 ct5), sl5⟩) (c5 : PySem.W.codeIn K cd5 "changes" = true) (k5 : PySem.W.keepIn K (.ref a5) = true)
    (a6_ : PySem.W.nsIn K mainGlobals "spans" = some (some (.ref a6))) (l6 : K.lookup a6 = some ⟨oc6, od6, .func (PySem.W.fnOf "spans" "spans" (defArgs s_spans) (defBody s_spans) (defScope s_spans) .none kV6 dc6 pm6 an6 cd6 ct6), sl6⟩) (c6 : PySem.W.codeIn K cd6 "spans" = true) (k6 : PySem.W.keepIn K (.ref a6) = true)
    (a7_ : PySem.W.nsIn K mainGlobals "of_spans" = some (some (.ref a7))) (l7 : K.lookup a7 = some ⟨oc7, od7, .func (PySem.W.fnOf "of_spans" "of_spans" (defArgs s_of_spans) (defBody s_of_spans) (defScope s_of_spans) .none kV7 dc7 pm7 an7 cd7 ct7), sl7⟩) (c7 : PySem.W.codeIn K cd7 "of_spans" = true) (k7 : PySem.W.keepIn K (.ref a7) = true)
    (a8_ : PySem.W.nsIn K mainGlobals "_law_word" = some (some (.ref a8))) (l8 : K.lookup a8 = some ⟨oc8, od8, .func (PySem.W.fnOf "_law_word" "_law_word" (defArgs s_law_word) (defBody s_law_word) (defScope s_law_word) .none kV8 dc8 pm8 an8 cd8 ct8), sl8⟩) (c8 : PySem.W.codeIn K cd8 "_law_word" = true) (k8 : PySem.W.keepIn K (.ref a8) = true)
    (a9_ : PySem.W.nsIn K mainGlobals "_law_made" = some (some (.ref a9))) (l9 : K.lookup a9 = some ⟨oc9, od9, .func (PySem.W.fnOf "_law_made" "_law_made" (defArgs s_law_made) (defBody s_law_made) (defScope s_law_made) .none kV9 dc9 pm9 an9 cd9 ct9), sl9⟩) (c9 : PySem.W.codeIn K cd9 "_law_made" = true) (k9 : PySem.W.keepIn K (.ref a9) = true)
    (a10_ : PySem.W.nsIn K mainGlobals "law" = some (some (.ref a10))) (l10 : K.lookup a10 = some ⟨oc10, od10, .func (PySem.W.fnOf "law" "law" (defArgs s_law) (defBody s_law) (defScope s_law) .none kV10 dc10 pm10 an10 cd10 ct10), sl10⟩) (c10 : PySem.W.codeIn K cd10 "law" = true) (k10 : PySem.W.keepIn K (.ref a10) = true)
    (z_len : PySem.W.nsIn K mainGlobals "len" = some none)
    (z_range : PySem.W.nsIn K mainGlobals "range" = some none)
    (z_isinstance : PySem.W.nsIn K mainGlobals "isinstance" = some none)
    (z_ValueError : PySem.W.nsIn K mainGlobals "ValueError" = some none)
    (z_zip : PySem.W.nsIn K mainGlobals "zip" = some none)
    (z_enumerate : PySem.W.nsIn K mainGlobals "enumerate" = some none)
    (z_min : PySem.W.nsIn K mainGlobals "min" = some none)
    (g_TickError : PySem.W.nsIn K mainGlobals "TickError" = some (some (.ref cTickError)))
    (g_NoTick : PySem.W.nsIn K mainGlobals "NoTick" = some (some (.ref cNoTick)))
    (g_Unlike : PySem.W.nsIn K mainGlobals "Unlike" = some (some (.ref cUnlike)))
    (g_Clash : PySem.W.nsIn K mainGlobals "Clash" = some (some (.ref cClash)))
    (g_TooLong : PySem.W.nsIn K mainGlobals "TooLong" = some (some (.ref cTooLong)))
    (g_NoWave : PySem.W.nsIn K mainGlobals "NoWave" = some (some (.ref cNoWave)))
    (g_NoName : PySem.W.nsIn K mainGlobals "NoName" = some (some (.ref cNoName)))
    (g_NoText : PySem.W.nsIn K mainGlobals "NoText" = some (some (.ref cNoText)))
    (g_MOST_TICKS : PySem.W.nsIn K mainGlobals "MOST_TICKS" = some (some (.int 12 t_MOST_TICKS)))
    (x_TooLong : excIn K cTooLong veMro "ValueError.__new__" = true)
    (e1_TooLong : isClsIn K cTooLong = true)
    (e2_TooLong : findIn K (.ref cTooLong) "__getattribute__" = some (some (.builtin "BaseException.__getattribute__")))
    (e3_TooLong : findIn K (.ref cTooLong) "__getattr__" = some none)
    (e4_TooLong : findIn K (.ref cTooLong) "__class__" = some (some (.builtin "object.__class__")))
    (e5_TooLong : specialIn K (.builtin "object.__class__") "__get__" = some (some (.builtin "getset_descriptor.__get__")))
    (e6_TooLong : takesIn K (.builtin "object.__class__") = some true)
    (e7_TooLong : mroIn K cTooLong (.type "object") = some true)
    (e8_TooLong : mroIn K cTooLong (.type "BaseException") = some true)
    (m_TooLong : exmOne K (.ref cTooLong) (.ref cTickError) = some true)
    (w0_TooLong : kitOne K (.ref cTooLong) (.ref cClash) = some false)
    (w1_TooLong : kitOne K (.ref cTooLong) (.ref cNoName) = some false)
    (w2_TooLong : kitOne K (.ref cTooLong) (.ref cNoText) = some false)
    (w3_TooLong : kitOne K (.ref cTooLong) (.ref cNoTick) = some false)
    (w4_TooLong : kitOne K (.ref cTooLong) (.ref cNoWave) = some false)
    (w5_TooLong : kitOne K (.ref cTooLong) (.ref cTooLong) = some true)
    (w6_TooLong : kitOne K (.ref cTooLong) (.ref cUnlike) = some false)
    (v_TooLong : kitOne K (.ref cTooLong) (.type "ValueError") = some true) :
    ∃ fd : FuncData, (∀ (s : Shared) (v : Value), BindsTo s fd ⟨[v], []⟩ [("_law_script", v)]) ∧ ∀ base : Heap, K.In base → base.Ns mainGlobals mg → FnOk l.prog w K mg base CX0 5 fa fd ["_law_script"] (spLaw K) := by
  have T : Tx K mg cTickError cNoTick cUnlike cClash cTooLong cNoWave cNoName cNoText := {
    len := PySem.W.mg_none_of X G z_len
    range := PySem.W.mg_none_of X G z_range
    isinstance := PySem.W.mg_none_of X G z_isinstance
    ValueError := PySem.W.mg_none_of X G z_ValueError
    zip := PySem.W.mg_none_of X G z_zip
    enumerate := PySem.W.mg_none_of X G z_enumerate
    min := PySem.W.mg_none_of X G z_min
    TickError := PySem.W.mg_of X G g_TickError
    NoTick := PySem.W.mg_of X G g_NoTick
    Unlike := PySem.W.mg_of X G g_Unlike
    Clash := PySem.W.mg_of X G g_Clash
    TooLong := PySem.W.mg_of X G g_TooLong
    NoWave := PySem.W.mg_of X G g_NoWave
    NoName := PySem.W.mg_of X G g_NoName
    NoText := PySem.W.mg_of X G g_NoText
    MOST_TICKS := ⟨t_MOST_TICKS, PySem.W.mg_of X G g_MOST_TICKS⟩
    f__law_cell := ⟨a0, _, fun_mk (st := s_law_cell) l0 c0 k0, PySem.W.mg_of X G a0_, (fun_mk (st := s_law_cell) l0 c0 k0).binds (ps := ["_law_script", "_law_k"]) fun _ _ _ _ _ _ us hl => match us, hl with | [_, _], _ => rfl⟩
    f__law_pick := ⟨a1, _, fun_mk (st := s_law_pick) l1 c1 k1, PySem.W.mg_of X G a1_, (fun_mk (st := s_law_pick) l1 c1 k1).binds (ps := ["_law_script", "_law_k", "_law_many"]) fun _ _ _ _ _ _ us hl => match us, hl with | [_, _, _], _ => rfl⟩
    f__law_wave := ⟨a2, _, fun_mk (st := s_law_wave) l2 c2 k2, PySem.W.mg_of X G a2_, (fun_mk (st := s_law_wave) l2 c2 k2).binds (ps := ["_law_script", "_law_at", "_law_many", "_law_signs"]) fun _ _ _ _ _ _ us hl => match us, hl with | [_, _, _, _], _ => rfl⟩
    f_refuse_too_long := ⟨a3, _, fun_mk (st := s_refuse_too_long) l3 c3 k3, PySem.W.mg_of X G a3_, (fun_mk (st := s_refuse_too_long) l3 c3 k3).binds (ps := ["length"]) fun _ _ _ _ _ _ us hl => match us, hl with | [_], _ => rfl⟩
    f_not_too_long := ⟨a4, _, fun_mk (st := s_not_too_long) l4 c4 k4, PySem.W.mg_of X G a4_, (fun_mk (st := s_not_too_long) l4 c4 k4).binds (ps := ["signs"]) fun _ _ _ _ _ _ us hl => match us, hl with | [_], _ => rfl⟩
    f_changes := ⟨a5, _, fun_mk (st := s_changes) l5 c5 k5, PySem.W.mg_of X G a5_, (fun_mk (st := s_changes) l5 c5 k5).binds (ps := ["wave"]) fun _ _ _ _ _ _ us hl => match us, hl with | [_], _ => rfl⟩
    f_spans := ⟨a6, _, fun_mk (st := s_spans) l6 c6 k6, PySem.W.mg_of X G a6_, (fun_mk (st := s_spans) l6 c6 k6).binds (ps := ["wave"]) fun _ _ _ _ _ _ us hl => match us, hl with | [_], _ => rfl⟩
    f_of_spans := ⟨a7, _, fun_mk (st := s_of_spans) l7 c7 k7, PySem.W.mg_of X G a7_, (fun_mk (st := s_of_spans) l7 c7 k7).binds (ps := ["rows"]) fun _ _ _ _ _ _ us hl => match us, hl with | [_], _ => rfl⟩
    f__law_word := ⟨a8, _, fun_mk (st := s_law_word) l8 c8 k8, PySem.W.mg_of X G a8_, (fun_mk (st := s_law_word) l8 c8 k8).binds (ps := ["_law_kept"]) fun _ _ _ _ _ _ us hl => match us, hl with | [_], _ => rfl⟩
    f__law_made := ⟨a9, _, fun_mk (st := s_law_made) l9 c9 k9, PySem.W.mg_of X G a9_, (fun_mk (st := s_law_made) l9 c9 k9).binds (ps := ["_law_rows"]) fun _ _ _ _ _ _ us hl => match us, hl with | [_], _ => rfl⟩
    f_law := ⟨a10, _, fun_mk (st := s_law) l10 c10 k10, PySem.W.mg_of X G a10_, (fun_mk (st := s_law) l10 c10 k10).binds (ps := ["_law_script"]) fun _ _ _ _ _ _ us hl => match us, hl with | [_], _ => rfl⟩
    x_TooLong := x_TooLong
    e1_TooLong := e1_TooLong
    e2_TooLong := e2_TooLong
    e3_TooLong := e3_TooLong
    e4_TooLong := e4_TooLong
    e5_TooLong := e5_TooLong
    e6_TooLong := e6_TooLong
    e7_TooLong := e7_TooLong
    e8_TooLong := e8_TooLong
    m_TooLong := m_TooLong
    w0_TooLong := w0_TooLong
    w1_TooLong := w1_TooLong
    w2_TooLong := w2_TooLong
    w3_TooLong := w3_TooLong
    w4_TooLong := w4_TooLong
    w5_TooLong := w5_TooLong
    w6_TooLong := w6_TooLong
    v_TooLong := v_TooLong
  }
  refine ⟨PySem.W.fnOf "law" "law" (defArgs s_law) (defBody s_law) (defScope s_law) .none kV10 dc10 pm10 an10 cd10 ct10, fun s v => .of_eq rfl, fun base _ _ => ?_⟩
  have e := hfa.symm.trans (PySem.W.mg_of X G a10_)
  cases e
  exact ok_law (P := l.prog) (w := w) (base := base) T (fun_mk (st := s_law) l10 c10 k10)
theorem walk {l : PySem.W.OpenLaw} {q : Program} {loose : List Str} {XP : (Str → Option Value) → Heap → Prop} {YP : World → Heap → Prop} {d : DefRec} {K : Params → PySem.W.Frag} (hn : l.most = some 63) (hdf : d.params.defaults = [])
    (hY : ∀ (w : World) (h : Heap), YP w h → (K w.params).In h)
    (F : ∀ (w : World) (mg : Str → Option Value) (fa : Addr) (h : Heap), (K w.params).In h → h.Ns mainGlobals mg → mg d.name = some (.ref fa) →
      ∃ fd : FuncData, (∀ (s : Shared) (u : Value), BindsTo s fd ⟨[u], []⟩ [("_law_script", u)]) ∧ ∀ base : Heap, (K w.params).In base → base.Ns mainGlobals mg → FnOk l.prog w (K w.params) mg base CX0 5 fa fd ["_law_script"] (spLaw (K w.params))) :
    PySem.W.WalkO q loose XP YP l.row.toRowW d [] (fun f vs => PySem.call f vs) :=
  L2.walk_of (n := 63) (k := 5) (x := "_law_script") (CX := fun _ => CX0) (sp := fun w => spLaw (K w.params)) hn (by decide) hdf ⟨rfl, by decide, by decide⟩ hY F (fun _ _ a ns hl _ hS => ⟨a, ns, rfl, ⟨hS, hl⟩, fun _ => rfl⟩) fun _ _ _ _ _ z => z
end K03
open PySem PySem.W PyProof.Rows
set_option maxRecDepth 100000 in
set_option maxHeartbeats 0 in
theorem PySem.Challenge.cw_tickrows_k03_whole_spans_holds : PySem.Challenge.rw_tickrows_k03_whole_spans.Holds := by
  w_on; o_law; k_head; (case hw => w_witness2)
  k_fill
  refine K03.walk (l := PySem.Challenge.rw_tickrows_k03_whole_spans) rfl rfl (fun w h Y => PySem.W.kIn_of Y) ?F
  case F =>
    intro w mg fa h KX G hmg
    refine' K03.all_mk KX G hmg ?a0_ ?l0 ?c0 ?k0 ?a1_ ?l1 ?c1 ?k1 ?a2_ ?l2 ?c2 ?k2 ?a3_ ?l3 ?c3 ?k3 ?a4_ ?l4 ?c4 ?k4 ?a5_ ?l5 ?c5 ?k5 ?a6_ ?l6 ?c6 ?k6 ?a7_ ?l7 ?c7 ?k7 ?a8_ ?l8 ?c8 ?k8 ?a9_ ?l9 ?c9 ?k9 ?a10_ ?l10 ?c10 ?k10 ?z_len ?z_range ?z_isinstance ?z_ValueError ?z_zip ?z_enumerate ?z_min ?g_TickError ?g_NoTick ?g_Unlike ?g_Clash ?g_TooLong ?g_NoWave ?g_NoName ?g_NoText ?g_MOST_TICKS ?x_TooLong ?e1_TooLong ?e2_TooLong ?e3_TooLong ?e4_TooLong ?e5_TooLong ?e6_TooLong ?e7_TooLong ?e8_TooLong ?m_TooLong ?w0_TooLong ?w1_TooLong ?w2_TooLong ?w3_TooLong ?w4_TooLong ?w5_TooLong ?w6_TooLong ?v_TooLong
    (case a0_ => first | k_is | kit_is | kts_exm | k_exc)
    (case l0 => first | k_is | kit_is | kts_exm | k_exc)
    (case c0 => first | k_is | kit_is | kts_exm | k_exc)
    (case k0 => first | k_is | kit_is | kts_exm | k_exc)
    (case a1_ => first | k_is | kit_is | kts_exm | k_exc)
    (case l1 => first | k_is | kit_is | kts_exm | k_exc)
    (case c1 => first | k_is | kit_is | kts_exm | k_exc)
    (case k1 => first | k_is | kit_is | kts_exm | k_exc)
    (case a2_ => first | k_is | kit_is | kts_exm | k_exc)
    (case l2 => first | k_is | kit_is | kts_exm | k_exc)
    (case c2 => first | k_is | kit_is | kts_exm | k_exc)
    (case k2 => first | k_is | kit_is | kts_exm | k_exc)
    (case a3_ => first | k_is | kit_is | kts_exm | k_exc)
    (case l3 => first | k_is | kit_is | kts_exm | k_exc)
    (case c3 => first | k_is | kit_is | kts_exm | k_exc)
    (case k3 => first | k_is | kit_is | kts_exm | k_exc)
    (case a4_ => first | k_is | kit_is | kts_exm | k_exc)
    (case l4 => first | k_is | kit_is | kts_exm | k_exc)
    (case c4 => first | k_is | kit_is | kts_exm | k_exc)
    (case k4 => first | k_is | kit_is | kts_exm | k_exc)
    (case a5_ => first | k_is | kit_is | kts_exm | k_exc)
    (case l5 => first | k_is | kit_is | kts_exm | k_exc)
    (case c5 => first | k_is | kit_is | kts_exm | k_exc)
    (case k5 => first | k_is | kit_is | kts_exm | k_exc)
    (case a6_ => first | k_is | kit_is | kts_exm | k_exc)
    (case l6 => first | k_is | kit_is | kts_exm | k_exc)
    (case c6 => first | k_is | kit_is | kts_exm | k_exc)
    (case k6 => first | k_is | kit_is | kts_exm | k_exc)
    (case a7_ => first | k_is | kit_is | kts_exm | k_exc)
    (case l7 => first | k_is | kit_is | kts_exm | k_exc)
    (case c7 => first | k_is | kit_is | kts_exm | k_exc)
    (case k7 => first | k_is | kit_is | kts_exm | k_exc)
    (case a8_ => first | k_is | kit_is | kts_exm | k_exc)
    (case l8 => first | k_is | kit_is | kts_exm | k_exc)
    (case c8 => first | k_is | kit_is | kts_exm | k_exc)
    (case k8 => first | k_is | kit_is | kts_exm | k_exc)
    (case a9_ => first | k_is | kit_is | kts_exm | k_exc)
    (case l9 => first | k_is | kit_is | kts_exm | k_exc)
    (case c9 => first | k_is | kit_is | kts_exm | k_exc)
    (case k9 => first | k_is | kit_is | kts_exm | k_exc)
    (case a10_ => first | k_is | kit_is | kts_exm | k_exc)
    (case l10 => first | k_is | kit_is | kts_exm | k_exc)
    (case c10 => first | k_is | kit_is | kts_exm | k_exc)
    (case k10 => first | k_is | kit_is | kts_exm | k_exc)
    (case z_len => first | k_is | kit_is | kts_exm | k_exc)
    (case z_range => first | k_is | kit_is | kts_exm | k_exc)
    (case z_isinstance => first | k_is | kit_is | kts_exm | k_exc)
    (case z_ValueError => first | k_is | kit_is | kts_exm | k_exc)
    (case z_zip => first | k_is | kit_is | kts_exm | k_exc)
    (case z_enumerate => first | k_is | kit_is | kts_exm | k_exc)
    (case z_min => first | k_is | kit_is | kts_exm | k_exc)
    (case g_TickError => first | k_is | kit_is | kts_exm | k_exc)
    (case g_NoTick => first | k_is | kit_is | kts_exm | k_exc)
    (case g_Unlike => first | k_is | kit_is | kts_exm | k_exc)
    (case g_Clash => first | k_is | kit_is | kts_exm | k_exc)
    (case g_TooLong => first | k_is | kit_is | kts_exm | k_exc)
    (case g_NoWave => first | k_is | kit_is | kts_exm | k_exc)
    (case g_NoName => first | k_is | kit_is | kts_exm | k_exc)
    (case g_NoText => first | k_is | kit_is | kts_exm | k_exc)
    (case g_MOST_TICKS => first | k_is | kit_is | kts_exm | k_exc)
    (case x_TooLong => first | k_is | kit_is | kts_exm | k_exc)
    (case e1_TooLong => first | k_is | kit_is | kts_exm | k_exc)
    (case e2_TooLong => first | k_is | kit_is | kts_exm | k_exc)
    (case e3_TooLong => first | k_is | kit_is | kts_exm | k_exc)
    (case e4_TooLong => first | k_is | kit_is | kts_exm | k_exc)
    (case e5_TooLong => first | k_is | kit_is | kts_exm | k_exc)
    (case e6_TooLong => first | k_is | kit_is | kts_exm | k_exc)
    (case e7_TooLong => first | k_is | kit_is | kts_exm | k_exc)
    (case e8_TooLong => first | k_is | kit_is | kts_exm | k_exc)
    (case m_TooLong => first | k_is | kit_is | kts_exm | k_exc)
    (case w0_TooLong => first | k_is | kit_is | kts_exm | k_exc)
    (case w1_TooLong => first | k_is | kit_is | kts_exm | k_exc)
    (case w2_TooLong => first | k_is | kit_is | kts_exm | k_exc)
    (case w3_TooLong => first | k_is | kit_is | kts_exm | k_exc)
    (case w4_TooLong => first | k_is | kit_is | kts_exm | k_exc)
    (case w5_TooLong => first | k_is | kit_is | kts_exm | k_exc)
    (case w6_TooLong => first | k_is | kit_is | kts_exm | k_exc)
    (case v_TooLong => first | k_is | kit_is | kts_exm | k_exc)
