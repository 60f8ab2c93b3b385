import PyProof.Rows.All
import Wide.All
import OpenK.AllK
import Wide.FinOn
import Lean
import PyProof.EqAt
import PyProof.EqKinds
import PyProof.NeKinds
import PyProof.TupleCall
import PyProof.Rows.SetFrom
import PyProof.CollectWalk
import PyProof.DictIter
import PyProof.Rows.SortShell
import KE.KDictSum
import PyProof.Rows.SortStr
import PyProof.ZipIter
import KE.KItemsList
import PyProof.Rows.SumAny
import PyProof.Rows.StrJoin2
import PyProof.Rows.ZipGen
import PyProof.StationsW
import PyProof.RulesAs
import PyProof.ExcClass2
import PyProof.Ns1
import PyProof.NsCount
import PyProof.Slots
import PyProof.ExcArgs
import OpenK.KDescr
import OpenK.KMake
import PyProof.InstStoreFacts
import PyProof.ExcBaseAll.ValueError
import KE.KIsAll
import OpenK.KOwn
import PyProof.NsDelKeeps
import PyProof.ListMulRoad
import PyProof.FactsAll.tuple
import PyProof.Rows.SeqMore
import PySem.Challenge.RW_makes_k97_refusals_apart
set_option Elab.async false
set_option linter.all false
set_option maxRecDepth 100000
/-! THE HAND LAYER, for ints, bools, texts, own classes, LISTS and tuples (index, slices, in, append, pop ..), calls, loops. Paste it whole ahead of your own text; what your proof does not reach may be deleted. -/
namespace L2
open PySem PySem.Spec PyProof.Rows

/-- a key: an int or a str -/
abbrev Key := Sum Int Str
def keyIs : Key → Value → Bool
  | .inl k, v => Value.isInt k v
  | .inr x, v => Value.isStrOf x v
def keyH (w : World) : Key → Int
  | .inl k => hashInt k
  | .inr x => hashStr w x
theorem keyIs_shape : ∀ {k : Key} {v : Value}, keyIs k v = true → (∃ i t, k = Sum.inl i ∧ v = Value.int i t) ∨ (∃ x t, k = Sum.inr x ∧ v = Value.str x t)
  | .inl i, v, h => by
    obtain ⟨t, e⟩ := Value.isInt_shape (k := i) (v := v) h
    exact .inl ⟨i, t, rfl, e⟩
  | .inr x, v, h => by
    obtain ⟨t, e⟩ := Value.isStrOf_shape (x := x) (v := v) h
    exact .inr ⟨x, t, rfl, e⟩
theorem keyIs_int (i : Int) (t : Tok) : keyIs (.inl i) (.int i t) = true := by simp [keyIs, Value.isInt]
theorem keyIs_str (x : Str) (t : Tok) : keyIs (.inr x) (.str x t) = true := by simp [keyIs, Value.isStrOf]
theorem key_ll (a b : Int) : decide ((Sum.inl a : Key) = Sum.inl b) = (a == b) := by
  by_cases e : a = b
  · subst e; simp
  · have h : ¬ (Sum.inl a : Key) = Sum.inl b := fun q => e (Sum.inl.inj q)
    rw [decide_eq_false h]
    exact (beq_eq_false_iff_ne.mpr e).symm
theorem key_rr (a b : Str) : decide ((Sum.inr a : Key) = Sum.inr b) = decide (a = b) := by
  by_cases e : a = b
  · subst e; simp
  · have h : ¬ (Sum.inr a : Key) = Sum.inr b := fun q => e (Sum.inr.inj q)
    rw [decide_eq_false h, decide_eq_false e]
theorem key_lr (a : Int) (b : Str) : decide ((Sum.inl a : Key) = Sum.inr b) = false := decide_eq_false (fun q => nomatch q)
theorem key_rl (a : Str) (b : Int) : decide ((Sum.inr a : Key) = Sum.inl b) = false := decide_eq_false (fun q => nomatch q)

def mixKind (prog : Program) (w : World) : PySem.KeyKind prog w Key where
  is := keyIs
  hash := keyH w
  inj := fun v a b ha hb => by
    rcases keyIs_shape ha with ⟨i, t, rfl, rfl⟩ | ⟨x, t, rfl, rfl⟩
    · rcases keyIs_shape hb with ⟨j, u, rfl, e⟩ | ⟨y, u, rfl, e⟩
      · injection e with e1 _; rw [e1]
      · exact nomatch e
    · rcases keyIs_shape hb with ⟨j, u, rfl, e⟩ | ⟨y, u, rfl, e⟩
      · exact nomatch e
      · injection e with e1 _; rw [e1]
  byValue := fun k v h => by
    rcases keyIs_shape h with ⟨i, t, rfl, rfl⟩ | ⟨x, t, rfl, rfl⟩ <;> rfl
  pyHash := fun hv h => by
    rcases keyIs_shape hv with ⟨i, t, rfl, rfl⟩ | ⟨x, t, rfl, rfl⟩
    · exact wpAny_pyHash_int h
    · exact wpAny_pyHash_str h
  eqBool := fun hu hv h => by
    rcases keyIs_shape hu with ⟨i, t, rfl, rfl⟩ | ⟨x, t, rfl, rfl⟩
    · rcases keyIs_shape hv with ⟨j, u, rfl, rfl⟩ | ⟨y, u, rfl, rfl⟩
      · rw [key_ll] at h; exact wpAny_eqBool_int h
      · rw [key_lr] at h; exact SeqAt.EqAt.int_str i t y u _ _ _ _ h
    · rcases keyIs_shape hv with ⟨j, u, rfl, rfl⟩ | ⟨y, u, rfl, rfl⟩
      · rw [key_rl] at h; exact SeqAt.EqAt.str_int x t j u _ _ _ _ h
      · rw [key_rr] at h; exact wpAny_eqBool_str h
  «strs» := fun k x t v h => by
    rcases keyIs_shape h with ⟨i, u, rfl, e⟩ | ⟨y, u, rfl, e⟩
    · exact nomatch e
    · injection e with e1 _
      subst e1
      cases v <;> rfl

theorem mixKind_is (prog : Program) (w : World) (k : Key) (v : Value) : (mixKind prog w).is k v = keyIs k v := rfl
theorem mixKind_int (prog : Program) (w : World) (i : Int) (t : Tok) : (mixKind prog w).is (.inl i) (.int i t) = true := keyIs_int i t
theorem mixKind_str (prog : Program) (w : World) (x : Str) (t : Tok) : (mixKind prog w).is (.inr x) (.str x t) = true := keyIs_str x t
end L2

namespace L2
open PySem PySem.Spec PyProof.Rows

/-- a value, without the heap -/
inductive V where
  | non | bl (b : Bool) | int (i : Int) | str (x : Str) | byt (b : Array UInt8) | flt (b : UInt64) | ref (a : Addr) | ty (n : String)
  deriving DecidableEq

def RelV : V → Value → Prop
  | .non, u => u = Value.none
  | .bl b, u => u = Value.bool b
  | .int i, u => ∃ t, u = Value.int i t
  | .str x, u => ∃ t, u = Value.str x t
  | .byt b, u => ∃ t, u = Value.bytes b t
  | .flt b, u => ∃ t, u = Value.float b t
  | .ref a, u => u = Value.ref a
  | .ty n, u => u = Value.type n

abbrev Vals : List V → List Value → Prop := Paired RelV
theorem Vals.length {xs : List V} {us : List Value} (r : Vals xs us) : xs.length = us.length := Paired.length r
theorem Vals.get : ∀ {xs : List V} {us : List Value} {i : Nat} {x : V}, Vals xs us → xs[i]? = some x → ∃ u, us[i]? = some u ∧ RelV x u
  | _, _, _, _, .nil, e => by simp at e
  | _, _, 0, _, .cons r _, e => by simp at e; subst e; exact ⟨_, rfl, r⟩
  | _, _, i + 1, x, .cons _ t, e => by
    obtain ⟨u, h1, h2⟩ := Vals.get (i := i) (x := x) t (by simpa using e)
    exact ⟨u, by simpa using h1, h2⟩
theorem Vals.set {x : V} {u : Value} (r : RelV x u) : ∀ {xs : List V} {us : List Value} (i : Nat), Vals xs us → Vals (xs.set i x) (us.set i u)
  | _, _, _, .nil => .nil
  | _, _, 0, .cons _ t => .cons r t
  | _, _, i + 1, .cons q t => .cons q (Vals.set r i t)
theorem Vals.append : ∀ {xs ys : List V} {us ws : List Value}, Vals xs us → Vals ys ws → Vals (xs ++ ys) (us ++ ws)
  | _, _, _, _, .nil, s => s
  | _, _, _, _, .cons r t, s => .cons r (Vals.append t s)
theorem Vals.take : ∀ {xs : List V} {us : List Value} (n : Nat), Vals xs us → Vals (xs.take n) (us.take n)
  | _, _, 0, _ => .nil
  | _, _, _ + 1, .nil => .nil
  | _, _, n + 1, .cons r t => .cons r (Vals.take n t)
theorem Vals.drop : ∀ {xs : List V} {us : List Value} (n : Nat), Vals xs us → Vals (xs.drop n) (us.drop n)
  | _, _, 0, r => r
  | _, _, _ + 1, .nil => .nil
  | _, _, n + 1, .cons _ t => Vals.drop n t
theorem Vals.none_of : ∀ {xs : List V} {us : List Value} {i : Nat}, Vals xs us → xs[i]? = none → us[i]? = none := fun {xs us i} r e => by
  have h1 := r.length
  have h2 : xs.length ≤ i := List.getElem?_eq_none_iff.mp e
  exact List.getElem?_eq_none_iff.mpr (by omega)

def RelO : Option V → Option Value → Prop
  | some v, some u => RelV v u
  | none, none => True
  | _, _ => False
def KV {κ : Type} : List (κ × V) → List (κ × Value) → Prop := Paired fun (p : κ × V) (q : κ × Value) => p.1 = q.1 ∧ RelV p.2 q.2

/-- a key of a dict (00_mix): an int or a text -/
def kV : Key → V
  | .inl i => .int i
  | .inr x => .str x

/-- what stands at a tracked address -/
inductive HO where
  /-- a list -/
  | lst (xs : List V)
  /-- a tuple (never changes) -/
  | tup (xs : List V)
  /-- a dict whose keys are ints and texts; one whose keys are tuples of ints and texts (the empty one is both) -/
  | dK (kvs : List (Key × V)) | dT (kvs : List (List Key × V))
  /-- a set of ints: its members, its size -/
  | set (S : Int → Bool) (n : Nat)
  /-- an instance of the class at C, its dict at dx, its attributes -/
  | ins (C dx : Addr) (fs : List (Str × V))
  /-- the dict of the instance at x -/
  | own (x : Addr)
  /-- the dict of an exception -/
  | xd (fs : List (Str × V))
  /-- a bound method, f of x -/
  | met (f x : Addr)
  /-- a range object lo, lo + 1, .. below hi -/
  | rng (lo hi : Int)
  /-- a thing that is known to the object (the script; a dict while a loop walks it): read, never written while it is so -/
  | frz (o : Obj) (u : HO)
  /-- a code object's table -/
  | tbl (ps : Array Value)
  /-- any other thing, by what is true of its one object (a def of one's own: SetO a S n := HO.ext fun h => ..) -/
  | ext (φ : Heap → Prop)

abbrev Hp := Addr → Option HO
def upd (H : Hp) (a : Addr) (o : HO) : Hp := fun b => if b = a then some o else H b
theorem upd_same {H : Hp} {a : Addr} {o : HO} : upd H a o a = some o := by unfold upd; rw [if_pos rfl]
theorem upd_ne {H : Hp} {a b : Addr} {o : HO} (h : b ≠ a) : upd H a o b = H b := by unfold upd; rw [if_neg h]
theorem upd_upd {H : Hp} {a : Addr} {o u : HO} : upd (upd H a o) a u = upd H a u := by
  funext b; unfold upd; split <;> rfl
/-- two objects of different content stand apart -/
theorem ne_of {H : Hp} {a b : Addr} {o u : HO} (h : H a = some o) (h' : H b = some u) (d : o ≠ u) : a ≠ b := by
  intro e; subst e; rw [h] at h'; exact d (Option.some.inj h')
theorem ne_of_none {H : Hp} {a b : Addr} {o : HO} (h : H a = some o) (h' : H b = none) : a ≠ b := by
  intro e; subst e; rw [h] at h'; cases h'

section
variable (P : Program) (w : World)
def ObjOk (H : Hp) (h : Heap) (a : Addr) : HO → Prop
  | .lst xs => xs.length ≤ sizeLine ∧ ∃ (its : List Value) (n : Nat), Vals xs its ∧ h.get? a = some { cls := .type "list", data := .seq its.toArray n }
  | .tup xs => xs.length ≤ sizeLine ∧ ∃ its : List Value, Vals xs its ∧ IsTup h a its.toArray
  | .dK kvs => kvs.length ≤ sizeLine ∧ (a == sysModules) = false ∧ ∃ vs, KV kvs vs ∧ h.DictOf (mixKind P w) a vs
  | .dT kvs => kvs.length ≤ sizeLine ∧ (a == sysModules) = false ∧ ∃ xs : List (List Key × Addr × Value),
      Paired (fun (p : List Key × V) (q : List Key × Addr × Value) => p.1 = q.1 ∧ H q.2.1 = some (.tup (p.1.map kV)) ∧ RelV p.2 q.2.2) kvs xs ∧
      ∃ o es ep, h.get? a = some o ∧ o.ExactDict ∧ o.data = .dict es ep ∧ es.toList = xs.map (entryOfKey (tupleKind (mixKind P w))) ∧ (xs.map (·.1)).Nodup
  | .set S n => h.SetOf (intKind P w) a S n
  | .ins C dx fs => H dx = some (.own a) ∧ fs.length ≤ 1000 ∧ dx ≠ a ∧ h.get? a = some (PySem.W.instObj C dx) ∧
      ∃ mA, h.Ns1 dx mA ∧ (∀ f, RelO (fs.lookup f) (mA f)) ∧ PySem.Within mA (fs.map (·.1))
  | .own _ => ∃ o, h.get? a = some o
  | .xd fs => ∃ mA, h.Ns1 a mA ∧ ∀ f, RelO (fs.lookup f) (mA f)
  | .rng lo hi => ∃ t u v, h.get? a = some { cls := .type "range", data := .fields #[.int lo t, .int hi u, .int 1 v] }
  | .frz o u => h.get? a = some o ∧ ObjOk H h a u
  | .tbl ps => h.get? a = some { cls := .none, data := .fields ps }
  | .met f x => h.get? a = some (PySem.W.methodObj (.ref f) (.ref x))
  | .ext φ => φ h ∧ (∃ o, h.get? a = some o) ∧ ∀ h1 h2 : Heap, φ h1 → (∀ o, h1.get? a = some o → h2.get? a = some o) → φ h2
/-- the abstract heap is held -/
def HOk (H : Hp) (h : Heap) : Prop := ∀ a o, H a = some o → ObjOk P w H h a o
end

section
variable {P : Program} {w : World} {H H' : Hp} {h h' : Heap} {a : Addr} {o : HO}
theorem ObjOk.lt (x : ObjOk P w H h a o) : a < h.objs.size := by
  cases o with
  | lst xs => obtain ⟨_, _, _, _, e⟩ := x; exact Heap.lt_size e
  | tup xs => obtain ⟨_, _, _, p⟩ := x; exact p.lt
  | dK kvs => obtain ⟨_, _, _, _, o, _, _, e, _⟩ := x; exact Heap.lt_size e
  | dT kvs => obtain ⟨_, _, _, _, o, _, _, e, _⟩ := x; exact Heap.lt_size e
  | set S n => obtain ⟨o, _, _, _, e, _⟩ := x; exact Heap.lt_size e
  | ins C dx fs => obtain ⟨_, _, _, e, _⟩ := x; exact Heap.lt_size e
  | own y => obtain ⟨_, e⟩ := x; exact Heap.lt_size e
  | xd fs => obtain ⟨_, ⟨_, _, _, e, _⟩, _⟩ := x; exact Heap.lt_size e
  | rng lo hi => obtain ⟨_, _, _, e⟩ := x; exact Heap.lt_size e
  | frz ob u => obtain ⟨e, _⟩ := x; exact Heap.lt_size e
  | tbl ps => exact Heap.lt_size (show h.get? a = some _ from x)
  | met f y => exact Heap.lt_size (show h.get? a = some _ from x)
  | ext φ => obtain ⟨_, ⟨_, e⟩, _⟩ := x; exact Heap.lt_size e
theorem Paired.mapP {α β : Type} {F G : α → β → Prop} : ∀ {l₁ : List α} {l₂ : List β}, Paired F l₁ l₂ → (∀ a b, F a b → G a b) → Paired G l₁ l₂
  | _, _, .nil, _ => .nil
  | _, _, .cons r t, f => .cons (f _ _ r) (Paired.mapP t f)
theorem Paired.imp' {α β : Type} {F G : α → β → Prop} (f : ∀ a b, F a b → G a b) {l₁ : List α} {l₂ : List β} (r : Paired F l₁ l₂) : Paired G l₁ l₂ := Paired.mapP r f
/-- what an object's description leans on: its own object, its own dict, the tuples -/
theorem ObjOk.stay (x : ObjOk P w H h a o) (k : ∀ b u, (b = a ∨ H b = some (.own a)) → h.get? b = some u → h'.get? b = some u)
    (ho : ∀ b, H b = some (.own a) → H' b = some (.own a)) (ht : ∀ b xs, H b = some (.tup xs) → H' b = some (.tup xs)) : ObjOk P w H' h' a o := by
  induction o with
  | lst xs => obtain ⟨z, its, n, r, e⟩ := x; exact ⟨z, its, n, r, k _ _ (.inl rfl) e⟩
  | tup xs => obtain ⟨z, its, r, ob, e, c⟩ := x; exact ⟨z, its, r, ob, k _ _ (.inl rfl) e, c⟩
  | dK kvs => obtain ⟨z, y, vs, r, ob, es, ep, e, c⟩ := x; exact ⟨z, y, vs, r, ob, es, ep, k _ _ (.inl rfl) e, c⟩
  | dT kvs =>
    obtain ⟨z, y, xs, r, ob, es, ep, e, c⟩ := x
    exact ⟨z, y, xs, Paired.mapP r fun p q z => ⟨z.1, ht _ _ z.2.1, z.2.2⟩, ob, es, ep, k _ _ (.inl rfl) e, c⟩
  | set S n => obtain ⟨ob, es, ep, t, e, c⟩ := x; exact ⟨ob, es, ep, t, k _ _ (.inl rfl) e, c⟩
  | ins C dx fs =>
    obtain ⟨d, z, ne, e, mA, ⟨od, es, ep, e2, c⟩, r⟩ := x
    exact ⟨ho _ d, z, ne, k _ _ (.inl rfl) e, mA, ⟨od, es, ep, k _ _ (.inr d) e2, c⟩, r⟩
  | own y => obtain ⟨ob, e⟩ := x; exact ⟨ob, k _ _ (.inl rfl) e⟩
  | xd fs => obtain ⟨mA, ⟨od, es, ep, e, c⟩, r⟩ := x; exact ⟨mA, ⟨od, es, ep, k _ _ (.inl rfl) e, c⟩, r⟩
  | rng lo hi => obtain ⟨t, u, v, e⟩ := x; exact ⟨t, u, v, k _ _ (.inl rfl) e⟩
  | frz ob u ih => obtain ⟨e, q⟩ := x; exact ⟨k _ _ (.inl rfl) e, ih q⟩
  | tbl ps =>
    have e : h.get? a = some { cls := .none, data := .fields ps } := x
    show h'.get? a = some { cls := .none, data := .fields ps }
    exact k a _ (.inl rfl) e
  | met f y =>
    have e : h.get? a = some (PySem.W.methodObj (.ref f) (.ref y)) := x
    show h'.get? a = some (PySem.W.methodObj (.ref f) (.ref y))
    exact k a _ (.inl rfl) e
  | ext φ => obtain ⟨p, ⟨o, e⟩, st⟩ := x; exact ⟨st _ _ p fun o q => k _ _ (.inl rfl) q, ⟨o, k _ _ (.inl rfl) e⟩, st⟩
theorem HOk.lt (x : HOk P w H h) (e : H a = some o) : a < h.objs.size := (x a o e).lt
theorem HOk.fresh (x : HOk P w H h) (e : h.objs.size ≤ a) : H a = none := by
  cases q : H a with
  | none => rfl
  | some u => exact absurd (Nat.lt_of_lt_of_le (x.lt q) e) (Nat.lt_irrefl _)
/-- every object of the heap is kept -/
theorem HOk.kept (x : HOk P w H h) (k : ∀ b u, h.get? b = some u → h'.get? b = some u) : HOk P w H h' := fun a o e =>
  (x a o e).stay (fun b u _ q => k b u q) (fun _ q => q) fun _ _ q => q
/-- a new object is laid and tracked -/
theorem HOk.laid (x : HOk P w H h) (k : ∀ b u, h.get? b = some u → h'.get? b = some u) (hp : h.objs.size ≤ a) (new : ObjOk P w (upd H a o) h' a o) : HOk P w (upd H a o) h' := fun b u e => by
  have hn := x.fresh hp
  by_cases hb : b = a
  · subst hb; rw [upd_same] at e; cases e; exact new
  · rw [upd_ne hb] at e
    exact (x b u e).stay (fun c v _ q => k c v q) (fun c q => by rw [upd_ne (ne_of_none q hn)]; exact q) fun c xs q => by rw [upd_ne (ne_of_none q hn)]; exact q
end

/-- what may be read as u: it is u, or a known u -/
def Rd (H : Hp) (a : Addr) (u : HO) : Prop := H a = some u ∨ ∃ o, H a = some (.frz o u)
theorem Rd.of {H : Hp} {a : Addr} {u : HO} (h : H a = some u) : Rd H a u := .inl h
theorem Rd.ok {P : Program} {w : World} {H : Hp} {h : Heap} {a : Addr} {u : HO} (r : Rd H a u) (x : HOk P w H h) : ObjOk P w H h a u := by
  rcases r with r | ⟨o, r⟩
  · exact x a u r
  · obtain ⟨_, q⟩ := x a _ r
    exact q
/-- what may be written -/
def Mut : Option HO → Prop
  | some (.lst _) => True
  | some (.dK _) => True
  | some (.dT _) => True
  | some (.set _ _) => True
  | some (.ins _ _ _) => True
  | some (.ext _) => True
  | _ => False
section
variable {P : Program} {w : World} {H : Hp} {h h' : Heap} {x e : Addr} {o' : HO}
/-- the object at e is changed: x itself, or the dict of the instance x -/
theorem HOk.write (ok : HOk P w H h) (mu : Mut (H x)) (he : e = x ∨ H e = some (.own x)) (k : ∀ b u, b ≠ e → h.get? b = some u → h'.get? b = some u) (heo : ∃ u, h'.get? e = some u)
    (new : ObjOk P w (upd H x o') h' x o') : HOk P w (upd H x o') h' := fun b u q => by
  have nown : ∀ c y, H c = some (.own y) → c ≠ x := fun c y r z => by subst z; rw [r] at mu; exact mu
  have ntup : ∀ c xs, H c = some (.tup xs) → c ≠ x := fun c xs r z => by subst z; rw [r] at mu; exact mu
  by_cases hb : b = x
  · subst hb; rw [upd_same] at q; cases q; exact new
  · rw [upd_ne hb] at q
    by_cases hbe : b = e
    · have q' : H b = some (.own x) := by
        rcases he with z | z
        · exact absurd (hbe.trans z) hb
        · rw [hbe]; exact z
      rw [q] at q'; cases q'
      obtain ⟨v, hv⟩ := heo
      exact ⟨v, by rw [hbe]; exact hv⟩
    · refine (ok b u q).stay (fun c v hc r => k c v ?_ r) (fun c r => by rw [upd_ne (nown c b r)]; exact r) fun c xs r => by rw [upd_ne (ntup c xs r)]; exact r
      rcases hc with rfl | hc
      · exact hbe
      · rintro rfl
        rcases he with z | z
        · exact nown c b hc z
        · rw [hc] at z; cases z; exact hb rfl
end

/-! ### kept unless tracked; of the frames at fs (the callers') the slots may change (an exception that passes writes there); of the records at ex (iterators) nothing is said -/
structure Un (fs ex : List Addr) (H H' : Hp) (h h' : Heap) : Prop where
  keep : ∀ b o, h.get? b = some o → H b = none → b ∉ fs → b ∉ ex → h'.get? b = some o
  slot : ∀ b o, h.get? b = some o → H b = none → b ∈ fs → b ∉ ex → ∃ sl, h'.get? b = some { o with slots := sl }
  free : ∀ b o, h.get? b = some o → H b = none → b ∉ ex → H' b = none
  there : ∀ b o, h.get? b = some o → b ∉ ex → ∃ o', h'.get? b = some o'
  tups : ∀ b xs, H b = some (.tup xs) → H' b = some (.tup xs)
  frzs : ∀ b o u, H b = some (.frz o u) → H' b = some (.frz o u)
  tbls : ∀ b ps, H b = some (.tbl ps) → ∃ more, H' b = some (.tbl (ps ++ more))
section
variable {fs fs' ex ex' : List Addr} {H H1 H2 : Hp} {h h1 h2 h' : Heap} {a x e : Addr} {o : HO}
theorem Un.any (u : Un fs ex H H1 h h1) {b : Addr} {ob : Obj} (q : h.get? b = some ob) (n : H b = none) (hx : b ∉ ex) : ∃ sl, h1.get? b = some { ob with slots := sl } := by
  by_cases hb : b ∈ fs
  · exact u.slot b ob q n hb hx
  · exact ⟨ob.slots, u.keep b ob q n hb hx⟩
theorem Un.trans (a : Un fs ex H H1 h h1) (b : Un fs ex H1 H2 h1 h2) : Un fs ex H H2 h h2 where
  keep := fun c ob q n hc hx => b.keep c ob (a.keep c ob q n hc hx) (a.free c ob q n hx) hc hx
  slot := fun c ob q n hc hx => by
    obtain ⟨sl, e1⟩ := a.slot c ob q n hc hx
    obtain ⟨sl', e2⟩ := b.slot c _ e1 (a.free c ob q n hx) hc hx
    exact ⟨sl', e2⟩
  free := fun c ob q n hx => by
    obtain ⟨o', e1⟩ := a.there c ob q hx
    exact b.free c o' e1 (a.free c ob q n hx) hx
  there := fun c ob q hx => by
    obtain ⟨o', e1⟩ := a.there c ob q hx
    exact b.there c o' e1 hx
  tups := fun c xs q => b.tups c xs (a.tups c xs q)
  frzs := fun c ob xs q => b.frzs c ob xs (a.frzs c ob xs q)
  tbls := fun c ps q => by
    obtain ⟨m1, e1⟩ := a.tbls c ps q
    obtain ⟨m2, e2⟩ := b.tbls c _ e1
    exact ⟨m1 ++ m2, by rw [e2, Array.append_assoc]⟩
theorem Un.kept (k : ∀ b u, h.get? b = some u → h'.get? b = some u) : Un fs ex H H h h' :=
  ⟨fun b ob q _ _ _ => k b ob q, fun b ob q _ _ _ => ⟨ob.slots, k b ob q⟩, fun _ _ _ n _ => n, fun b ob q _ => ⟨ob, k b ob q⟩, fun _ _ q => q, fun _ _ _ q => q, fun _ ps q => ⟨#[], by rw [q]; simp⟩⟩
theorem Un.refl : Un fs ex H H h h := Un.kept fun _ _ q => q
theorem Un.laid (k : ∀ b u, h.get? b = some u → h'.get? b = some u) (hp : h.objs.size ≤ a) (hn : H a = none) : Un fs ex H (upd H a o) h h' where
  keep := fun b u q _ _ _ => k b u q
  slot := fun b u q _ _ _ => ⟨u.slots, k b u q⟩
  free := fun b u q n _ => by rw [upd_ne (Nat.ne_of_lt (Nat.lt_of_lt_of_le (Heap.lt_size q) hp))]; exact n
  there := fun b u q _ => ⟨u, k b u q⟩
  tups := fun b xs q => by rw [upd_ne (ne_of_none q hn)]; exact q
  frzs := fun b u xs q => by rw [upd_ne (ne_of_none q hn)]; exact q
  tbls := fun b ps q => ⟨#[], by rw [upd_ne (ne_of_none q hn), q]; simp⟩
theorem Un.write (mu : Mut (H x)) (he : e = x ∨ H e = some (.own x)) (k : ∀ b u, b ≠ e → h.get? b = some u → h'.get? b = some u) (heo : ∃ u, h'.get? e = some u) : Un fs ex H (upd H x o) h h' := by
  have hx : ∀ b, H b = none → b ≠ x := fun b n z => by subst z; rw [n] at mu; exact mu
  have hb : ∀ b, H b = none → b ≠ e := fun b n z => by
    subst z
    rcases he with r | r
    · exact hx b n r
    · rw [n] at r; cases r
  have hm : ∀ b u, H b = some u → ¬ Mut (some u) → b ≠ x := fun b u q nm z => by subst z; rw [q] at mu; exact nm mu
  refine ⟨fun b u q n _ _ => k b u (hb b n) q, fun b u q n _ _ => ⟨u.slots, k b u (hb b n) q⟩, fun b u q n _ => by rw [upd_ne (hx b n)]; exact n, fun b u q _ => ?_,
    fun b xs q => by rw [upd_ne (hm b _ q fun z => z)]; exact q, fun b u xs q => by rw [upd_ne (hm b _ q fun z => z)]; exact q, fun b ps q => ⟨#[], by rw [upd_ne (hm b _ q fun z => z), q]; simp⟩⟩
  by_cases hbe : b = e
  · subst hbe; exact heo
  · exact ⟨u, k b u hbe q⟩
theorem Un.mono (u : Un fs ex H H1 h h1) (hs : ∀ b ∈ fs, b ∈ fs') (hx : ∀ b ∈ ex, b ∈ ex') : Un fs' ex' H H1 h h1 :=
  ⟨fun b ob q n hb he => u.keep b ob q n (fun z => hb (hs b z)) fun z => he (hx b z), fun _ _ q n _ he => u.any q n fun z => he (hx _ z), fun b ob q n he => u.free b ob q n fun z => he (hx b z), fun b ob q he => u.there b ob q fun z => he (hx b z), u.tups, u.frzs, u.tbls⟩
end

/-! ### the heap without what is tracked -/
def trk (h : Heap) (H : Hp) : List Addr := (List.range h.objs.size).filter fun a => (H a).isSome
def hidT (h : Heap) (H : Hp) : Heap := PySem.W.hideAll h (trk h H)
theorem hidT_size (h : Heap) (H : Hp) : (hidT h H).objs.size = h.objs.size := PySem.W.hideAll_size _ _
theorem hidT_get {h : Heap} {H : Hp} {b : Addr} {o : Obj} (e : h.get? b = some o) (n : H b = none) : (hidT h H).get? b = some o :=
  PySem.W.hideAll_get _ e fun hm => by
    have q : (H b).isSome = true := (List.mem_filter.mp hm).2
    rw [n] at q; simp at q
theorem of_hidT {h : Heap} {H : Hp} {b : Addr} {o : Obj} (e : (hidT h H).get? b = some o) : h.get? b = some o ∧ H b = none := by
  have e' : h.get? b = some o := PySem.W.of_hideAll (trk h H) e
  refine ⟨e', ?_⟩
  cases q : H b with
  | none => rfl
  | some x =>
    have hm : b ∈ trk h H := List.mem_filter.mpr ⟨List.mem_range.mpr (Heap.lt_size e'), by simp [q]⟩
    have z : (hidT h H).get? b = none := PySem.W.hideAll_none (trk h H) hm
    rw [z] at e; cases e

/-! ### OpenK's ledger, filled with every new object but one -/
def allNews (g h : Heap) (L : Addr) : List (Addr × Obj) := (List.range h.objs.size).filterMap fun a => if a = L ∨ (g.get? a).isSome = true then none else (h.get? a).map fun o => (a, o)
theorem mem_allNews {g h : Heap} {L a : Addr} {o : Obj} (h1 : a ≠ L) (h2 : g.get? a = none) (h3 : h.get? a = some o) : (a, o) ∈ allNews g h L :=
  List.mem_filterMap.mpr ⟨a, List.mem_range.mpr (Heap.lt_size h3), by simp [h1, h2, h3]⟩
theorem of_mem_allNews {g h : Heap} {L : Addr} {p : Addr × Obj} (hp : p ∈ allNews g h L) : p.1 ≠ L ∧ g.get? p.1 = none ∧ h.get? p.1 = some p.2 := by
  obtain ⟨b, _, e⟩ := List.mem_filterMap.mp hp
  split at e
  · cases e
  · rename_i hn
    cases q : h.get? b with
    | none => rw [q] at e; simp at e
    | some u =>
      rw [q] at e
      simp only [Option.map_some, Option.some.injEq] at e
      subst e
      refine ⟨fun z => hn (.inl z), ?_, q⟩
      show g.get? b = none
      cases r : g.get? b with
      | none => rfl
      | some v => exact (hn (.inr (by simp [r]))).elim
def rest (g h : Heap) (L d : Addr) : List (Addr × Obj) := (allNews g h L).filter fun p => decide (p.1 ≠ d)
theorem rest_ne {g h : Heap} {L d : Addr} : ∀ p ∈ rest g h L d, p.1 ≠ d := fun p hp => of_decide_eq_true (List.mem_filter.mp hp).2
theorem mem_rest {g h : Heap} {L d a : Addr} {o : Obj} (h1 : a ≠ L) (h2 : g.get? a = none) (h3 : h.get? a = some o) (h4 : a ≠ d) : (a, o) ∈ rest g h L d :=
  List.mem_filter.mpr ⟨mem_allNews h1 h2 h3, decide_eq_true h4⟩
theorem news_all {g h : Heap} {L : Addr} : News g L h (allNews g h L) := fun p hp => let ⟨a, b, c⟩ := of_mem_allNews hp; ⟨c, a, b⟩
theorem news_at {g h : Heap} {L d : Addr} {o : Obj} (h1 : d ≠ L) (h2 : g.get? d = none) (h3 : h.get? d = some o) : News g L h ((d, o) :: rest g h L d) := fun p hp => by
  rcases List.mem_cons.mp hp with rfl | hp
  · exact ⟨h3, h1, h2⟩
  · exact news_all p (List.mem_filter.mp hp).1
/-- behind a rule that changed d alone: all else but the frame is kept -/
theorem kept_of_news {g h h' : Heap} {L d : Addr} {m : Str → Option Value} (k : ∀ b o, g.get? b = some o → h.get? b = some o) (F : Fr g L h' m) (N : News g L h' (rest g h L d)) :
    ∀ b o, b ≠ L → b ≠ d → h.get? b = some o → h'.get? b = some o := fun b o h1 h2 e => by
  cases q : g.get? b with
  | some u =>
    have := k b u q
    rw [e] at this; cases this
    exact F.keep b _ q
  | none => exact (N (b, o) (mem_rest h1 q e h2)).1
end L2

namespace L2
open PySem PySem.Spec PyProof.Rows

/-- the module's facts, over the base: the heap at the law's entry without what is tracked there -/
structure Mod (K : PySem.W.Frag) (mg : Str → Option Value) (base : Heap) : Prop where
  kin : K.In base
  glob : base.Ns mainGlobals mg
  blt : ∃ mb, base.Ns builtinsNs mb ∧ ∀ x : Str, x ≠ "__name__" → mb x = bootBuiltins x
  nolimit : base.NoLimit

/-- the context: a def's body (or a comprehension's block) running. base: fixed through the whole law; s₀, H₀: the entry; outer: the frames whose slots others may change (a def's callers); stack: all frames that run;
   ex: iterators that were made ahead of the entry and are walked here (a comprehension's); fn: the names whose cells were made at the entry (a def: all; a comprehension's block: its own); calm: not within an except suite; pn: pins that every state bears; xe: what is wanted of an exception that leaves the code -/
structure Cx where
  prog : Program
  w : World
  K : PySem.W.Frag
  mg : Str → Option Value
  base : Heap
  A : Around
  N : List Str
  s₀ : Shared
  H₀ : Hp
  env : Env
  outer : List Env
  stack : List Env
  ex : List Addr
  fn : Str → Bool
  calm : Bool
  pn : List (Addr × Obj)
  xe : Value → Shared → Prop
/-- the callers' frames -/
def frs (l : List Env) : List Addr := l.filterMap (·.frame)
abbrev Cx.fs (X : Cx) : List Addr := frs X.outer

def Vis (sc : Scope) (x : Str) : Prop := sc.names.lookup x = some .local ∨ sc.names.lookup x = some .cell ∨ sc.names.lookup x = some .free
def Loc (sc : Scope) (x : Str) : Prop := sc.names.lookup x = some .local ∨ sc.names.lookup x = some .cell
def Look (env : Env) (h : Heap) (m : Str → Option Value) (x : Str) (u : Value) : Prop :=
  (env.kindOf x = some .local ∧ m x = some u) ∨ ((env.kindOf x = some .cell ∨ env.kindOf x = some .free) ∧ ∃ c, env.cells.lookup x = some c ∧ h.IsCell c (some u))

structure Cx.Ok (X : Cx) : Prop where
  mod : Mod X.K X.mg X.base
  kind : X.env.scope.kind = .function
  glob : X.env.globals = mainGlobals
  blt : X.env.builtins = builtinsNs
  above : X.s₀.heap.objs.size ≤ X.env.locals
  inj : ∀ x y c, X.env.cells.lookup x = some c → X.env.cells.lookup y = some c → x = y
  has : ∀ x, (X.env.kindOf x = some .cell ∨ X.env.kindOf x = some .free) → ∃ c, X.env.cells.lookup x = some c
  cab : ∀ x c, X.fn x = true → X.env.cells.lookup x = some c → X.s₀.heap.objs.size ≤ c
  hd : X.calm = true → X.A.handled = none
  frames : X.A.frames = some X.stack
  stk : X.stack = X.outer ∨ (X.stack = X.env :: X.outer ∧ X.env.frame = some X.env.locals)
  exf : ∀ b ∈ X.ex, b ≠ X.env.locals ∧ ∀ x c, X.env.cells.lookup x = some c → c ≠ b
  bs : ∀ b o, X.base.get? b = some o → X.s₀.heap.get? b = some o ∧ X.H₀ b = none
  bsz : X.base.objs.size ≤ X.s₀.heap.objs.size
  noex : ∀ b o, X.base.get? b = some o → b ∉ X.ex
  exfs : ∀ b ∈ X.ex, b ∉ X.fs
  funs : X.s₀.heap.FunFrames X.base X.outer
  frf : ∀ b ∈ X.fs, X.H₀ b = none

structure Inv (X : Cx) (pins : List (Addr × Obj)) (σ : List (Option V)) (H : Hp) (s : Shared) : Prop where
  ok : X.Ok
  os : s.os = X.s₀.os
  bare : AllBare s.gens
  base : Un X.fs X.ex X.H₀ H X.s₀.heap s.heap
  loc : ∃ m, s.heap.Ns X.env.locals m ∧ ∀ (i : Nat) (x : Str) (v : V), X.N[i]? = some x → σ[i]? = some (some v) → Vis X.env.scope x → ∃ u, RelV v u ∧ Look X.env s.heap m x u
  cell : ∀ x c, X.env.cells.lookup x = some c → ∃ v, s.heap.IsCell c v
  free : H X.env.locals = none
  freeC : ∀ x c, X.env.cells.lookup x = some c → H c = none
  pin : ∀ p ∈ X.pn ++ pins, s.heap.get? p.1 = some p.2 ∧ H p.1 = none ∧ p.1 ≠ X.env.locals ∧ p.1 ∉ X.fs ∧ ∀ v, p.2.data ≠ .cell v
  hok : HOk X.prog X.w H s.heap
  len : σ.length = X.N.length

section
variable {X : Cx} {pins : List (Addr × Obj)} {σ : List (Option V)} {H H' : Hp} {s : Shared} {h' : Heap}

theorem Cx.Ok.nofr (ok : X.Ok) {b : Addr} {o : Obj} (e : X.base.get? b = some o) : b ∉ X.fs := fun hb => by
  have := (ok.funs.mem hb).1
  rw [e] at this; cases this
theorem Inv.bs (I : Inv X pins σ H s) : ∀ b o, X.base.get? b = some o → s.heap.get? b = some o ∧ H b = none := fun b o e =>
  ⟨I.base.keep b o (I.ok.bs b o e).1 (I.ok.bs b o e).2 (I.ok.nofr e) (I.ok.noex b o e), I.base.free b o (I.ok.bs b o e).1 (I.ok.bs b o e).2 (I.ok.noex b o e)⟩
theorem Inv.bk (I : Inv X pins σ H s) : ∀ b o, X.base.get? b = some o → s.heap.get? b = some o := fun b o e => (I.bs b o e).1
theorem Inv.mod (I : Inv X pins σ H s) : Mod X.K X.mg X.base := I.ok.mod
theorem Inv.kIn (I : Inv X pins σ H s) : X.K.In s.heap := I.ok.mod.kin.keeps I.bk
theorem Inv.nolimit (I : Inv X pins σ H s) : s.heap.NoLimit := I.ok.mod.nolimit.keeps I.bk
/-- the frame over the base: for OpenK's rules (K.In X.base is I.mod.kin) -/
theorem Inv.fr (I : Inv X pins σ H s) : ∃ m, Fr X.base X.env.locals s.heap m :=
  let ⟨m, hn, _⟩ := I.loc
  ⟨m, hn, I.bk, Nat.le_trans I.ok.bsz I.ok.above⟩
theorem Inv.lt (I : Inv X pins σ H s) : X.env.locals < s.heap.objs.size := let ⟨_, hn, _⟩ := I.loc; hn.lt
theorem Inv.sz (I : Inv X pins σ H s) : X.s₀.heap.objs.size ≤ s.heap.objs.size := Nat.le_trans I.ok.above (Nat.le_of_lt I.lt)
theorem Inv.nofs (I : Inv X pins σ H s) {a : Addr} (h : s.heap.objs.size ≤ a) : a ∉ X.fs := fun hb => by
  obtain ⟨_, o, ho, _⟩ := I.ok.funs.mem hb
  exact absurd (Nat.lt_of_lt_of_le (Heap.lt_size ho) (Nat.le_trans I.sz h)) (Nat.lt_irrefl _)
theorem Inv.cne (I : Inv X pins σ H s) : ∀ x c, X.env.cells.lookup x = some c → c ≠ X.env.locals := fun x c e z => by
  obtain ⟨v, o, ho, hd⟩ := I.cell x c e
  obtain ⟨m, ⟨o', es, ep, ho', hd', _⟩, _⟩ := I.loc
  rw [z, ho'] at ho; cases ho; rw [hd'] at hd; cases hd
theorem Inv.funs (I : Inv X pins σ H s) : s.heap.FunFrames X.base X.outer := by
  have all : ∀ (l : List Env), (∀ b ∈ frs l, b ∈ X.fs) → X.s₀.heap.FunFrames X.base l → s.heap.FunFrames X.base l := by
    intro l
    induction l with
    | nil => intro _ _; trivial
    | cons env r ih =>
      intro hs hl
      obtain ⟨hk, ⟨L, o, hf, hn, ho, hd⟩, hr⟩ := hl
      have hL : L ∈ X.fs := hs L (by unfold frs; rw [List.filterMap_cons, hf]; exact List.mem_cons_self)
      obtain ⟨sl, e⟩ := I.base.slot L o ho (I.ok.frf L hL) hL fun z => I.ok.exfs L z hL
      exact ⟨hk, ⟨L, _, hf, hn, e, hd⟩, ih (fun b hb => hs b (by unfold frs; rw [List.filterMap_cons, hf]; exact List.mem_cons_of_mem _ hb)) hr⟩
  exact all X.outer (fun _ hb => hb) I.ok.funs

/-- the frames that run, for a call -/
theorem Inv.stack (I : Inv X pins σ H s) : s.heap.FunFrames X.base X.stack := by
  rcases I.ok.stk with e | ⟨e, hf⟩
  · rw [e]; exact I.funs
  · rw [e]
    obtain ⟨m, hn, _⟩ := I.loc
    refine .cons (by rw [I.ok.kind]; decide) hf hn ?_ I.funs
    exact Heap.get?_none_of_le (Nat.le_trans I.ok.bsz I.ok.above)
theorem Inv.stkSub (I : Inv X pins σ H s) : ∀ b ∈ frs X.stack, b ∈ X.env.locals :: X.fs := fun b hb => by
  rcases I.ok.stk with e | ⟨e, hf⟩
  · rw [e] at hb; exact List.mem_cons_of_mem _ hb
  · rw [e] at hb
    unfold frs at hb
    rw [List.filterMap_cons, hf] at hb
    exact hb
theorem Inv.stkFree (I : Inv X pins σ H s) : ∀ b ∈ frs X.stack, H b = none := fun b hb => by
  rcases List.mem_cons.mp (I.stkSub b hb) with e | hb
  · rw [e]; exact I.free
  · obtain ⟨_, o, ho, _⟩ := I.ok.funs.mem hb
    exact I.base.free b o ho (I.ok.frf b hb) fun z => I.ok.exfs b z hb

/-- THE STEP: the untracked objects but the frame and the records at ch are kept (the callers' frames up to slots), the frame's map is kept, the new abstract heap is held -/
theorem Inv.step {g' : Array GenState} {t' : Nat} {d' : Drawn} {ch : List Addr} (I : Inv X pins σ H s)
    (hch : ∀ b ∈ ch, (b ∈ X.ex ∨ X.s₀.heap.objs.size ≤ b) ∧ b ≠ X.env.locals ∧ (∀ x c, X.env.cells.lookup x = some c → c ≠ b) ∧ ∀ p ∈ X.pn ++ pins, p.1 ≠ b)
    (keep : ∀ b o, b ≠ X.env.locals → b ∉ X.fs → b ∉ ch → s.heap.get? b = some o → H b = none → h'.get? b = some o)
    (slot : ∀ b o, b ≠ X.env.locals → b ∈ X.fs → b ∉ ch → s.heap.get? b = some o → H b = none → ∃ sl, h'.get? b = some { o with slots := sl }) (free : ∀ b o, b ∉ ch → s.heap.get? b = some o → H b = none → H' b = none)
    (there : ∀ b o, b ∉ ch → s.heap.get? b = some o → ∃ o', h'.get? b = some o')
    (tups : ∀ b xs, H b = some (.tup xs) → H' b = some (.tup xs)) (frzs : ∀ b o u, H b = some (.frz o u) → H' b = some (.frz o u)) (tbls : ∀ b ps, H b = some (.tbl ps) → ∃ more, H' b = some (.tbl (ps ++ more)))
    (ns : ∀ m, s.heap.Ns X.env.locals m → h'.Ns X.env.locals m) (hok : HOk X.prog X.w H' h') (hg : AllBare g') :
    Inv X pins σ H' { s with heap := h', gens := g', drawn := d', toks := t' } := by
  have neL : ∀ b o, X.s₀.heap.get? b = some o → b ≠ X.env.locals := fun b o e => Nat.ne_of_lt (Nat.lt_of_lt_of_le (Heap.lt_size e) I.ok.above)
  have neC : ∀ b o, X.s₀.heap.get? b = some o → b ∉ X.ex → b ∉ ch := fun b o e hx hb => by
    rcases (hch b hb).1 with z | z
    · exact hx z
    · exact absurd (Nat.lt_of_lt_of_le (Heap.lt_size e) z) (Nat.lt_irrefl _)
  have cellK : ∀ x c, X.env.cells.lookup x = some c → ∀ v, s.heap.IsCell c v → h'.IsCell c v := fun x c e v ⟨o, ho, hd⟩ => by
    have nch : c ∉ ch := fun z => (hch c z).2.2.1 x c e rfl
    by_cases hc : c ∈ X.fs
    · obtain ⟨sl, q⟩ := slot c o (I.cne x c e) hc nch ho (I.freeC x c e)
      exact ⟨_, q, hd⟩
    · exact ⟨o, keep c o (I.cne x c e) hc nch ho (I.freeC x c e), hd⟩
  refine ⟨I.ok, I.os, hg, ⟨fun b o e n hb hx => ?_, fun b o e n hb hx => ?_, fun b o e n hx => ?_, fun b o e hx => ?_, fun b xs e => tups b xs (I.base.tups b xs e), fun b o xs e => frzs b o xs (I.base.frzs b o xs e), fun b ps e => ?_⟩, ?_, fun x c e => ?_, ?_, fun x c e => ?_, fun p hp => ?_, hok, I.len⟩
  · exact keep b o (neL b o e) hb (neC b o e hx) (I.base.keep b o e n hb hx) (I.base.free b o e n hx)
  · obtain ⟨sl, e1⟩ := I.base.slot b o e n hb hx
    obtain ⟨sl', e2⟩ := slot b _ (neL b o e) hb (neC b o e hx) e1 (I.base.free b o e n hx)
    exact ⟨sl', e2⟩
  · obtain ⟨o', e1⟩ := I.base.there b o e hx
    exact free b o' (neC b o e hx) e1 (I.base.free b o e n hx)
  · obtain ⟨o', e1⟩ := I.base.there b o e hx
    exact there b o' (neC b o e hx) e1
  · obtain ⟨m1, e1⟩ := I.base.tbls b ps e
    obtain ⟨m2, e2⟩ := tbls b _ e1
    exact ⟨m1 ++ m2, by rw [e2, Array.append_assoc]⟩
  · obtain ⟨m, hn, hl⟩ := I.loc
    refine ⟨m, ns m hn, fun i x v e1 e2 e3 => ?_⟩
    obtain ⟨u, r, l⟩ := hl i x v e1 e2 e3
    refine ⟨u, r, ?_⟩
    rcases l with l | ⟨k, c, e, z⟩
    · exact .inl l
    · exact .inr ⟨k, c, e, cellK x c e _ z⟩
  · obtain ⟨v, z⟩ := I.cell x c e
    exact ⟨v, cellK x c e v z⟩
  · obtain ⟨m, ⟨o, _, _, ho, _⟩, _⟩ := I.loc
    exact free _ o (fun z => (hch _ z).2.1 rfl) ho I.free
  · obtain ⟨v, o, ho, hd⟩ := I.cell x c e
    exact free c o (fun z => (hch c z).2.2.1 x c e rfl) ho (I.freeC x c e)
  · obtain ⟨e, n, ne, nf, d⟩ := I.pin p hp
    have nch : p.1 ∉ ch := fun z => (hch p.1 z).2.2.2 p hp rfl
    exact ⟨keep p.1 p.2 ne nf nch e n, free p.1 p.2 nch e n, ne, nf, d⟩
/-- .. where the frame's own object is kept too -/
theorem Inv.un {t' : Nat} (I : Inv X pins σ H s) (u : Un X.fs [] H H' s.heap h') (hok : HOk X.prog X.w H' h') : Inv X pins σ H' { s with heap := h', toks := t' } := by
  obtain ⟨m, ⟨o, es, ep, ho, r⟩, _⟩ := id I.loc
  obtain ⟨sl, hL⟩ := u.any ho I.free (by simp)
  exact I.step (g' := s.gens) (d' := s.drawn) (ch := []) (fun _ z => nomatch z) (fun b o _ hb _ e n => u.keep b o e n hb (by simp)) (fun b o _ hb _ e n => u.slot b o e n hb (by simp)) (fun b o _ e n => u.free b o e n (by simp)) (fun b o _ e => u.there b o e (by simp)) u.tups u.frzs u.tbls (fun m' hm => by
    obtain ⟨o', es', ep', ho', r'⟩ := hm
    rw [ho] at ho'; cases ho'
    exact ⟨_, es', ep', hL, r'⟩) hok I.bare
/-- behind a call (or a comprehension's block): the slots of this frame may have changed too, the records at ch may have turned -/
theorem Inv.call {g' : Array GenState} {t' : Nat} {d' : Drawn} {ch : List Addr} (I : Inv X pins σ H s) (u : Un (frs X.stack) ch H H' s.heap h') (hok : HOk X.prog X.w H' h') (hg : AllBare g')
    (hch : ∀ b ∈ ch, (b ∈ X.ex ∨ X.s₀.heap.objs.size ≤ b) ∧ b ≠ X.env.locals ∧ (∀ x c, X.env.cells.lookup x = some c → c ≠ b) ∧ ∀ p ∈ X.pn ++ pins, p.1 ≠ b) :
    Inv X pins σ H' { s with heap := h', gens := g', drawn := d', toks := t' } := by
  obtain ⟨m, ⟨o, es, ep, ho, r⟩, _⟩ := id I.loc
  obtain ⟨sl, hL⟩ := u.any ho I.free fun z => (hch _ z).2.1 rfl
  exact I.step (ch := ch) hch (fun b o hL hb hc e n => u.keep b o e n (fun z => (List.mem_cons.mp (I.stkSub b z)).elim hL hb) hc) (fun b o _ _ hc e n => u.any e n hc) (fun b o hc e n => u.free b o e n hc) (fun b o hc e => u.there b o e hc) u.tups u.frzs u.tbls (fun m' hm => by
    obtain ⟨o', es', ep', ho', r'⟩ := hm
    rw [ho] at ho'; cases ho'
    exact ⟨_, es', ep', hL, r'⟩) hok hg
/-- an untracked record of ours (an iterator) has turned -/
theorem Inv.turned {t' : Nat} {it : Addr} (I : Inv X pins σ H s) (k : ∀ b o, b ≠ it → s.heap.get? b = some o → h'.get? b = some o) (hn : H it = none) (hL : it ≠ X.env.locals)
    (h1 : it ∈ X.ex ∨ X.s₀.heap.objs.size ≤ it) (h2 : ∀ x c, X.env.cells.lookup x = some c → c ≠ it) (h3 : ∀ p ∈ X.pn ++ pins, p.1 ≠ it) : Inv X pins σ H { s with heap := h', toks := t' } := by
  have nit : ∀ b u, H b = some u → b ≠ it := fun b u e z => by rw [z, hn] at e; cases e
  refine I.step (g' := s.gens) (d' := s.drawn) (ch := [it]) (fun b hb => ?_) (fun b o _ _ hc e _ => k b o (fun z => hc (by simp [z])) e) (fun b o _ _ hc e _ => ⟨o.slots, k b o (fun z => hc (by simp [z])) e⟩) (fun _ _ _ _ n => n)
    (fun b o hc e => ⟨o, k b o (fun z => hc (by simp [z])) e⟩) (fun _ _ e => e) (fun _ _ _ e => e) (fun b ps e => ⟨#[], by rw [e]; simp⟩) (fun m hm => ?_) (fun b u e => ?_) I.bare
  · have e : b = it := by simpa using hb
    subst e
    exact ⟨h1, hL, h2, h3⟩
  · obtain ⟨o, es, ep, ho, r⟩ := hm
    exact ⟨o, es, ep, k _ o (Ne.symm hL) ho, r⟩
  · refine (I.hok b u e).stay (fun c v hc q => k c v ?_ q) (fun _ q => q) fun _ _ q => q
    rcases hc with z | z
    · rw [z]; exact nit b u e
    · exact nit c _ z
theorem Inv.tok (I : Inv X pins σ H s) (t : Nat) : Inv X pins σ H { s with toks := t } := I.un (h' := s.heap) (t' := t) Un.refl I.hok
/-- all objects kept -/
theorem Inv.kept {t' : Nat} (I : Inv X pins σ H s) (k : ∀ b u, s.heap.get? b = some u → h'.get? b = some u) : Inv X pins σ H { s with heap := h', toks := t' } := I.un (Un.kept k) (I.hok.kept k)
/-- a new object laid and tracked -/
theorem Inv.laid {a : Addr} {o : HO} {t' : Nat} (I : Inv X pins σ H s) (k : ∀ b u, s.heap.get? b = some u → h'.get? b = some u) (hp : s.heap.objs.size ≤ a) (new : ObjOk X.prog X.w (upd H a o) h' a o) :
    Inv X pins σ (upd H a o) { s with heap := h', toks := t' } := I.un (Un.laid k hp (I.hok.fresh hp)) (I.hok.laid k hp new)
/-- an object written -/
theorem Inv.write {x e : Addr} {o : HO} {t' : Nat} (I : Inv X pins σ H s) (mu : Mut (H x)) (he : e = x ∨ H e = some (.own x)) (k : ∀ b u, b ≠ e → s.heap.get? b = some u → h'.get? b = some u) (heo : ∃ u, h'.get? e = some u)
    (new : ObjOk X.prog X.w (upd H x o) h' x o) : Inv X pins σ (upd H x o) { s with heap := h', toks := t' } := I.un (Un.write mu he k heo) (I.hok.write mu he k heo new)
/-- forgetting slots, pins -/
theorem Inv.weak {σ' : List (Option V)} (I : Inv X pins σ H s) (hl : σ'.length = σ.length) (w : ∀ (i : Nat) v, σ'[i]? = some (some v) → σ[i]? = some (some v)) : Inv X pins σ' H s :=
  ⟨I.ok, I.os, I.bare, I.base, let ⟨m, hn, hl'⟩ := I.loc; ⟨m, hn, fun i x v e1 e2 e3 => hl' i x v e1 (w i v e2) e3⟩, I.cell, I.free, I.freeC, I.pin, I.hok, hl.trans I.len⟩
theorem Inv.pins_of {pins' : List (Addr × Obj)} (I : Inv X pins σ H s) (h : ∀ p ∈ pins', s.heap.get? p.1 = some p.2 ∧ H p.1 = none ∧ p.1 ≠ X.env.locals ∧ p.1 ∉ X.fs ∧ ∀ v, p.2.data ≠ .cell v) : Inv X pins' σ H s :=
  ⟨I.ok, I.os, I.bare, I.base, I.loc, I.cell, I.free, I.freeC, fun p hp => (List.mem_append.mp hp).elim (fun z => I.pin p (List.mem_append_left _ z)) (h p), I.hok, I.len⟩

theorem nodup_ix {N : List Str} (hN : N.Nodup) {i j : Nat} {x : Str} (a : N[i]? = some x) (b : N[j]? = some x) : i = j := by
  obtain ⟨h1, e1⟩ := List.getElem?_eq_some_iff.mp a
  obtain ⟨h2, e2⟩ := List.getElem?_eq_some_iff.mp b
  exact (List.getElem_inj hN).mp (e1.trans e2.symm)

/-- a name is stored; what changed -/
theorem store_ok2 {M : Model} {A : Around} {E : Value → Shared → Prop} {i : Nat} {x : Str} {v : V} {u : Value} {Q : Unit → Shared → Prop} (I : Inv X pins σ H s) (hN : X.N.Nodup) (hi : X.N[i]? = some x) (hx : Loc X.env.scope x) (r : RelV v u)
    (h : ∀ s', Inv X pins (σ.set i (some v)) H s' → (∃ a, Heap.SameBut a s.heap s'.heap ∧ (a = X.env.locals ∨ X.env.cells.lookup x = some a)) → Q () s') (hf : X.fn x = true ∨ X.env.scope.names.lookup x = some .local := by first | exact .inl rfl | exact .inr rfl | assumption) : wpAny M A (storeName X.env x u) Q E s := by
  obtain ⟨m, hn, hl⟩ := id I.loc
  have hcls : (X.env.scope.kind == .class || (X.env.scope.kind == .module && X.env.locals != X.env.globals)) = false := by rw [I.ok.kind]; rfl
  have hiσ : i < σ.length := by rw [I.len]; exact (List.getElem?_eq_some_iff.mp hi).1
  have cne := I.cne
  have tracked : ∀ {a : Addr} {h' : Heap}, (∃ o, s.heap.get? a = some o ∧ H a = none) → Heap.SameBut a s.heap h' → HOk X.prog X.w H h' := fun {a h'} ha hs b ob e => by
    obtain ⟨_, _, hfree⟩ := ha
    refine (I.hok b ob e).stay (fun c w' hc q => (hs.2 c ?_).trans q) (fun _ q => q) fun _ _ q => q
    rintro rfl
    rcases hc with rfl | hc
    · rw [hfree] at e; cases e
    · rw [hfree] at hc; cases hc
  rcases hx with hk | hk
  · refine wpAny_storeName_local hk hn (fun h' hn' hs => ?_) hcls
    obtain ⟨oL, _, _, hoL, _⟩ := id hn
    refine h _ ⟨I.ok, I.os, I.bare, ⟨fun b o e n hb hx => ?_, fun b o e n hb hx => ?_, I.base.free, fun b o e hx => ?_, I.base.tups, I.base.frzs, I.base.tbls⟩, ⟨_, hn', fun j y v' e1 e2 e3 => ?_⟩, fun y c e => ?_, I.free, I.freeC, fun p hp => ?_, tracked ⟨oL, hoL, I.free⟩ hs, by simpa using I.len⟩ ⟨_, hs, .inl rfl⟩
    · exact (hs.2 b (Nat.ne_of_lt (Nat.lt_of_lt_of_le (Heap.lt_size e) I.ok.above))).trans (I.base.keep b o e n hb hx)
    · obtain ⟨sl, e1⟩ := I.base.slot b o e n hb hx
      exact ⟨sl, (hs.2 b (Nat.ne_of_lt (Nat.lt_of_lt_of_le (Heap.lt_size e) I.ok.above))).trans e1⟩
    · obtain ⟨o', e1⟩ := I.base.there b o e hx
      exact ⟨o', (hs.2 b (Nat.ne_of_lt (Nat.lt_of_lt_of_le (Heap.lt_size e) I.ok.above))).trans e1⟩
    · by_cases hj : j = i
      · subst hj
        rw [hi] at e1; cases e1
        rw [List.getElem?_set_self hiσ] at e2
        cases e2
        exact ⟨u, r, .inl ⟨hk, by simp⟩⟩
      · rw [List.getElem?_set_ne (Ne.symm hj)] at e2
        obtain ⟨u', r', q⟩ := hl j y v' e1 e2 e3
        refine ⟨u', r', ?_⟩
        rcases q with ⟨k, e⟩ | ⟨k, c, e, z⟩
        · refine .inl ⟨k, ?_⟩
          have : y ≠ x := fun e => hj (nodup_ix hN e1 (e ▸ hi))
          simp [this, e]
        · exact .inr ⟨k, c, e, z.sameBut hs (cne y c e)⟩
    · obtain ⟨w', z⟩ := I.cell y c e
      exact ⟨w', z.sameBut hs (cne y c e)⟩
    · obtain ⟨e, n, ne, nf, d⟩ := I.pin p hp
      exact ⟨(hs.2 p.1 ne).trans e, n, ne, nf, d⟩
  · have hfn : X.fn x = true := by
      rcases hf with z | z
      · exact z
      · rw [z] at hk; cases hk
    obtain ⟨c, hc⟩ := I.ok.has x (.inl hk)
    obtain ⟨w', z⟩ := I.cell x c hc
    refine wpAny_storeName_cell I.ok.kind hk hc z (fun h' hc' hs => ?_)
    obtain ⟨oc, hoc, hocd⟩ := id z
    refine h { s with heap := h' } ⟨I.ok, I.os, I.bare, ⟨fun b o e n hb hx => ?_, fun b o e n hb hx => ?_, I.base.free, fun b o e hx => ?_, I.base.tups, I.base.frzs, I.base.tbls⟩, ⟨m, hn.sameBut hs (Ne.symm (cne x c hc)), fun j y v' e1 e2 e3 => ?_⟩, fun y c' e => ?_, I.free, I.freeC, fun p hp => ?_, tracked ⟨oc, hoc, I.freeC x c hc⟩ hs, by simpa using I.len⟩ ⟨c, hs, .inr hc⟩
    · exact (hs.2 b (Nat.ne_of_lt (Nat.lt_of_lt_of_le (Heap.lt_size e) (I.ok.cab x c hfn hc)))).trans (I.base.keep b o e n hb hx)
    · obtain ⟨sl, e1⟩ := I.base.slot b o e n hb hx
      exact ⟨sl, (hs.2 b (Nat.ne_of_lt (Nat.lt_of_lt_of_le (Heap.lt_size e) (I.ok.cab x c hfn hc)))).trans e1⟩
    · obtain ⟨o', e1⟩ := I.base.there b o e hx
      exact ⟨o', (hs.2 b (Nat.ne_of_lt (Nat.lt_of_lt_of_le (Heap.lt_size e) (I.ok.cab x c hfn hc)))).trans e1⟩
    · by_cases hj : j = i
      · subst hj
        rw [hi] at e1; cases e1
        rw [List.getElem?_set_self hiσ] at e2
        cases e2
        exact ⟨u, r, .inr ⟨.inl hk, c, hc, hc'⟩⟩
      · rw [List.getElem?_set_ne (Ne.symm hj)] at e2
        obtain ⟨u', r', q⟩ := hl j y v' e1 e2 e3
        refine ⟨u', r', ?_⟩
        rcases q with q | ⟨k, c', e, z'⟩
        · exact .inl q
        · refine .inr ⟨k, c', e, z'.sameBut hs ?_⟩
          rintro rfl
          exact hj (nodup_ix hN e1 (I.ok.inj _ _ _ e hc ▸ hi))
    · by_cases hcc : c' = c
      · subst hcc; exact ⟨_, hc'⟩
      · obtain ⟨w2, z2⟩ := I.cell y c' e
        exact ⟨w2, z2.sameBut hs hcc⟩
    · obtain ⟨e, n, ne, nf, d⟩ := I.pin p hp
      refine ⟨(hs.2 p.1 ?_).trans e, n, ne, nf, d⟩
      intro q
      rw [q, hoc] at e
      have q' : oc = p.2 := Option.some.inj e
      exact d w' (by rw [← q']; exact hocd)
theorem store_ok {M : Model} {A : Around} {E : Value → Shared → Prop} {i : Nat} {x : Str} {v : V} {u : Value} {Q : Unit → Shared → Prop} (I : Inv X pins σ H s) (hN : X.N.Nodup) (hi : X.N[i]? = some x) (hx : Loc X.env.scope x) (r : RelV v u)
    (h : ∀ s', Inv X pins (σ.set i (some v)) H s' → Q () s') (hf : X.fn x = true ∨ X.env.scope.names.lookup x = some .local := by first | exact .inl rfl | exact .inr rfl | assumption) : wpAny M A (storeName X.env x u) Q E s :=
  store_ok2 I hN hi hx r (fun s' I' _ => h s' I') hf
/-- behind a call or a block, the state as it is -/
theorem Inv.call' {s' : Shared} {ch : List Addr} (I : Inv X pins σ H s) (ho : s'.os = s.os) (u : Un (frs X.stack) ch H H' s.heap s'.heap) (hok : HOk X.prog X.w H' s'.heap) (hg : AllBare s'.gens)
    (hch : ∀ b ∈ ch, (b ∈ X.ex ∨ X.s₀.heap.objs.size ≤ b) ∧ b ≠ X.env.locals ∧ (∀ x c, X.env.cells.lookup x = some c → c ≠ b) ∧ ∀ p ∈ X.pn ++ pins, p.1 ≠ b) : Inv X pins σ H' s' := by
  obtain ⟨h', g', d', t', o'⟩ := s'
  have e : o' = s.os := ho
  subst e
  exact I.call (g' := g') (t' := t') (d' := d') u hok hg hch
end

/-! ### the judgements -/
/-- an exception: its class, its own dict's address (where it has one), the abstract heap behind it -/
abbrev XK := Value → Option Addr → Hp → Prop
abbrev St := List (Option V)
abbrev VK := V → Hp → Prop
/-- an expression's reading; a test's; an argument list's -/
abbrev TE := St → Hp → VK → Prop
abbrev TT := St → Hp → (Bool → Hp → Prop) → Prop
abbrev TA := St → Hp → (List V → Hp → Prop) → Prop
/-- what is wanted behind a statement -/
structure Ends where
  nx : St → Hp → Prop
  rt : VK
  bk : St → Hp → Prop := fun _ _ => False
  ct : St → Hp → Prop := fun _ _ => False
abbrev TS := Ends → St → Hp → Prop

def EP (X : Cx) (pins : List (Addr × Obj)) (σ : St) (Q : VK) (u : Value) (s' : Shared) : Prop := ∃ v H', Inv X pins σ H' s' ∧ RelV v u ∧ Q v H'
def TP (X : Cx) (pins : List (Addr × Obj)) (σ : St) (Q : Bool → Hp → Prop) (b : Bool) (s' : Shared) : Prop := ∃ H', Inv X pins σ H' s' ∧ Q b H'
def AP (X : Cx) (pins : List (Addr × Obj)) (σ : St) (Q : List V → Hp → Prop) (us : List Value) (s' : Shared) : Prop := ∃ vs H', Inv X pins σ H' s' ∧ Vals vs us ∧ Q vs H'
def SP (X : Cx) (pins : List (Addr × Obj)) (D : Ends) (f : Flow) (s' : Shared) : Prop :=
  match f with
  | .next => ∃ σ' H', Inv X pins σ' H' s' ∧ D.nx σ' H'
  | .brk => ∃ σ' H', Inv X pins σ' H' s' ∧ D.bk σ' H'
  | .cont => ∃ σ' H', Inv X pins σ' H' s' ∧ D.ct σ' H'
  | .ret u => ∃ v σ' H', Inv X pins σ' H' s' ∧ RelV v u ∧ D.rt v H'

def PE (X : Cx) (e : Expr) (t : TE) : Prop :=
  ∀ (pins : List (Addr × Obj)) (s : Shared) (σ : St) (H : Hp) (Q : VK), Inv X pins σ H s → t σ H Q → wpAny (model X.prog X.w) X.A (eval e X.env) (EP X pins σ Q) X.xe s
def PT (X : Cx) (e : Expr) (t : TT) : Prop :=
  ∀ (pins : List (Addr × Obj)) (s : Shared) (σ : St) (H : Hp) (Q : Bool → Hp → Prop), Inv X pins σ H s → t σ H Q → wpAny (model X.prog X.w) X.A (isTrue e X.env (eval e X.env)) (TP X pins σ Q) X.xe s
/-- a test whatever its 'whole' is (and, or) -/
def PW (X : Cx) (e : Expr) (t : TT) : Prop :=
  ∀ (whole : Sem Value) (pins : List (Addr × Obj)) (s : Shared) (σ : St) (H : Hp) (Q : Bool → Hp → Prop), Inv X pins σ H s → t σ H Q → wpAny (model X.prog X.w) X.A (isTrue e X.env whole) (TP X pins σ Q) X.xe s
theorem PW.pt {X : Cx} {e : Expr} {t : TT} (h : PW X e t) : PT X e t := h _
/-- an argument list (no star), from the left -/
def PA (X : Cx) (es : List Expr) (t : TA) : Prop :=
  ∀ (pos : Pos) (pins : List (Addr × Obj)) (s : Shared) (σ : St) (H : Hp) (Q : List V → Hp → Prop), Inv X pins σ H s → t σ H Q → wpAny (model X.prog X.w) X.A (spliced (backTo pos (starEach es X.env))) (AP X pins σ Q) X.xe s
def PS (X : Cx) (st : Stmt) (t : TS) : Prop :=
  ∀ (pins : List (Addr × Obj)) (s : Shared) (σ : St) (H : Hp) (D : Ends), Inv X pins σ H s → t D σ H → wpAny (model X.prog X.w) X.A (exec st X.env) (SP X pins D) X.xe s
def PSs (X : Cx) (st : List Stmt) (t : TS) : Prop :=
  ∀ (pins : List (Addr × Obj)) (s : Shared) (σ : St) (H : Hp) (D : Ends), Inv X pins σ H s → t D σ H → wpAny (model X.prog X.w) X.A (execs st X.env) (SP X pins D) X.xe s
/-- weaken the end -/
theorem thn {α : Type} {t : Sem α} {Q Q' : α → Shared → Prop} {M : Model} {A : Around} {E : Value → Shared → Prop} {s : Shared} (h : wpAny M A t Q E s) (hQ : ∀ a s, Q a s → Q' a s) : wpAny M A t Q' E s := wpAny_mono h hQ fun _ _ x => x
end L2

namespace L2
open PySem PySem.Spec PyProof.Rows
section
variable {X : Cx}

/-- two expressions in a row -/
theorem bin {a b : Expr} {ta tb : TE} (ha : PE X a ta) (hb : PE X b tb) {pins : List (Addr × Obj)} {s : Shared} {σ : St} {H : Hp} {R : V → V → Hp → Prop} (I : Inv X pins σ H s) (h : ta σ H fun x H1 => tb σ H1 fun y H2 => R x y H2)
    {α : Type} {Q : α → Shared → Prop} {f : Value → Value → Sem α}
    (hf : ∀ v u s2 x y H2, Inv X pins σ H2 s2 → RelV x v → RelV y u → R x y H2 → wpAny (model X.prog X.w) X.A (f v u) Q X.xe s2) :
    wpAny (model X.prog X.w) X.A (eval a X.env) (fun v s₁ => wpAny (model X.prog X.w) X.A (eval b X.env) (fun u s₂ => wpAny (model X.prog X.w) X.A (f v u) Q X.xe s₂) X.xe s₁) X.xe s := by
  refine thn (ha pins s σ H _ I h) fun v s1 ⟨x, H1, I1, r1, q1⟩ => ?_
  refine thn (hb pins s1 σ H1 _ I1 q1) fun u s2 ⟨y, H2, I2, r2, q2⟩ => ?_
  exact hf v u s2 x y H2 I2 r1 r2 q2

/-! ### names and constants -/
def tVar (i : Nat) : TE := fun σ H Q => ∃ v, σ[i]? = some (some v) ∧ Q v H
def tC (v : V) : TE := fun _ H Q => Q v H
theorem pe_var {i : Nat} {x : Str} {pos : Pos} (hN : X.N[i]? = some x) (hv : Vis X.env.scope x) (hd : (x == ("__debug__" : Str)) = false := by decide) (hcd : (x == ("__classdict__" : Str)) = false := by decide) : PE X (.Name x pos) (tVar i) := by
  intro pins s σ H Q I h
  obtain ⟨v, e, h⟩ := h
  obtain ⟨m, hn, hl⟩ := I.loc
  obtain ⟨u, r, l⟩ := hl i x v hN e hv
  have fin : EP X pins σ Q u s := ⟨v, H, I, r, h⟩
  rcases l with ⟨hk, hm⟩ | ⟨hk, c, hc, hcell⟩
  · exact wpAny_Name (wpAny_loadName_local I.ok.kind hk hn hm fin) hd
  · rcases hk with hk | hk
    · exact wpAny_Name (wpAny_loadName_cell I.ok.kind hk hc hcell fin) hd
    · exact wpAny_Name (wpAny_loadName_free I.ok.kind hk hc hcell fin hcd) hd
theorem pe_int {i j pos} : PE X (.Constant (.int i) j pos) (tC (.int i)) := fun _ _ _ H _ I h => wpAny_Constant_int ⟨.int i, H, I.tok _, ⟨_, rfl⟩, h⟩
theorem pe_bl {b j pos} : PE X (.Constant (.bool b) j pos) (tC (.bl b)) := fun _ _ _ H _ I h => Constant_bool ⟨.bl b, H, I, rfl, h⟩
theorem pe_non {j pos} : PE X (.Constant .none j pos) (tC .non) := fun _ _ _ H _ I h => Constant_none ⟨.non, H, I, rfl, h⟩
theorem pe_str {x j pos} : PE X (.Constant (.str x) j pos) (tC (.str x)) := fun _ _ _ H _ I h => Calls.Constant_str ⟨.str x, H, I.tok _, ⟨_, rfl⟩, h⟩

/-- a global name of the def -/
def Gl (X : Cx) (x : Str) : Prop := X.env.kindOf x = some .globalImplicit
theorem ld_glob {E : Value → Shared → Prop} {pins : List (Addr × Obj)} {s : Shared} {σ : St} {H : Hp} {x : Str} {u : Value} {pos : Pos} {Q : Value → Shared → Prop} (I : Inv X pins σ H s) (hg : Gl X x) (hm : X.mg x = some u) (h : Q u s)
    (hd : (x == ("__debug__" : Str)) = false := by decide) : wpAny (model X.prog X.w) X.A (eval (.Name x pos) X.env) Q E s :=
  Calls.Name_function_global I.ok.kind hg (Calls.loadGlobal_global (by rw [I.ok.glob]; exact I.mod.glob.keeps I.bk) hm h) hd
theorem ld_blt {E : Value → Shared → Prop} {pins : List (Addr × Obj)} {s : Shared} {σ : St} {H : Hp} {x : Str} {u : Value} {pos : Pos} {Q : Value → Shared → Prop} (I : Inv X pins σ H s) (hg : Gl X x) (hm : X.mg x = none) (hv : bootBuiltins x = some u) (h : Q u s)
    (hn : x ≠ "__name__" := by decide) (hd : (x == ("__debug__" : Str)) = false := by decide) : wpAny (model X.prog X.w) X.A (eval (.Name x pos) X.env) Q E s := by
  obtain ⟨mb, h1, h2⟩ := I.mod.blt
  exact Calls.Name_function_global I.ok.kind hg (Calls.loadGlobal_builtin (by rw [I.ok.glob]; exact I.mod.glob.keeps I.bk) hm (by rw [I.ok.blt]; exact h1.keeps I.bk) ((h2 x hn).trans hv) h) hd
/-- a module's constant, a class, a function, as a value -/
theorem pe_glob {x : Str} {v : V} {u : Value} {pos : Pos} (hg : Gl X x) (hm : X.mg x = some u) (r : RelV v u) (hd : (x == ("__debug__" : Str)) = false := by decide) : PE X (.Name x pos) (tC v) :=
  fun _ _ _ H _ I h => ld_glob I hg hm ⟨v, H, I, r, h⟩ hd
theorem pe_bltn {x : Str} {v : V} {u : Value} {pos : Pos} (hg : Gl X x) (hm : X.mg x = none) (hv : bootBuiltins x = some u) (r : RelV v u) (hn : x ≠ "__name__" := by decide) (hd : (x == ("__debug__" : Str)) = false := by decide) : PE X (.Name x pos) (tC v) :=
  fun _ _ _ H _ I h => ld_blt I hg hm hv ⟨v, H, I, r, h⟩ hn hd

/-! ### arithmetic -/
/-- two ints -/
def t2I (ta tb : TE) (k : Int → Int → Hp → Prop) : St → Hp → Prop := fun σ H => ta σ H fun x H1 => tb σ H1 fun y H2 => ∃ i j, x = .int i ∧ y = .int j ∧ k i j H2
def tAdd (ta tb : TE) : TE := fun σ H Q => t2I ta tb (fun i j H2 => Q (.int (i + j)) H2) σ H
def tSub (ta tb : TE) : TE := fun σ H Q => t2I ta tb (fun i j H2 => Q (.int (i - j)) H2) σ H
/-- the left factor below 2^64 -/
def tMul (ta tb : TE) : TE := fun σ H Q => t2I ta tb (fun i j H2 => (-(2 ^ 64) < i ∧ i < 2 ^ 64) ∧ Q (.int (i * j)) H2) σ H
variable {a b : Expr} {ta tb : TE} {pos : Pos}
theorem pe_add (ha : PE X a ta) (hb : PE X b tb) : PE X (.BinOp a .Add b pos) (tAdd ta tb) := by
  intro pins s σ H Q I h
  refine wpAny_BinOp (bin ha hb I h fun v u s2 x y H2 I2 rx ry q => ?_)
  obtain ⟨i, j, rfl, rfl, q⟩ := q
  obtain ⟨t, rfl⟩ := rx
  obtain ⟨t', rfl⟩ := ry
  exact add_int ⟨.int _, H2, I2.tok _, ⟨_, rfl⟩, q⟩
theorem pe_sub (ha : PE X a ta) (hb : PE X b tb) : PE X (.BinOp a .Sub b pos) (tSub ta tb) := by
  intro pins s σ H Q I h
  refine wpAny_BinOp (bin ha hb I h fun v u s2 x y H2 I2 rx ry q => ?_)
  obtain ⟨i, j, rfl, rfl, q⟩ := q
  obtain ⟨t, rfl⟩ := rx
  obtain ⟨t', rfl⟩ := ry
  exact sub_int ⟨.int _, H2, I2.tok _, ⟨_, rfl⟩, q⟩
theorem pe_mul (ha : PE X a ta) (hb : PE X b tb) : PE X (.BinOp a .Mult b pos) (tMul ta tb) := by
  intro pins s σ H Q I h
  refine wpAny_BinOp (bin ha hb I h fun v u s2 x y H2 I2 rx ry q => ?_)
  obtain ⟨i, j, rfl, rfl, ⟨q1, q2⟩, q⟩ := q
  obtain ⟨t, rfl⟩ := rx
  obtain ⟨t', rfl⟩ := ry
  exact mul_int ⟨.int _, H2, I2.tok _, ⟨_, rfl⟩, q⟩ (.of_left (intBits_le_64 q1 q2))

/-! ### comparisons -/
def PC (X : Cx) (op : CmpOp) (a b : Expr) (t : TE) : Prop :=
  ∀ (pins : List (Addr × Obj)) (s : Shared) (σ : St) (H : Hp) (Q : VK), Inv X pins σ H s → t σ H Q →
    wpAny (model X.prog X.w) X.A (eval a X.env) (fun v s₁ => wpAny (model X.prog X.w) X.A (eval b X.env) (fun u s₂ => wpAny (model X.prog X.w) X.A (compareOp op v u) (EP X pins σ Q) X.xe s₂) X.xe s₁) X.xe s
theorem nobehind (b : Expr) {op : CmpOp} (h : op ≠ .In) (h2 : op ≠ .NotIn) : behindInMarks op b = false := by
  have e1 : (op == CmpOp.In) = false := by cases op <;> first | rfl | exact absurd rfl h
  have e2 : (op == CmpOp.NotIn) = false := by cases op <;> first | rfl | exact absurd rfl h2
  cases b <;> simp [behindInMarks, e1, e2]
def tCmp (p : Int → Int → Bool) (ta tb : TE) : TE := fun σ H Q => t2I ta tb (fun i j H2 => Q (.bl (p i j)) H2) σ H
abbrev tLt : TE → TE → TE := tCmp fun i j => decide (i < j)
abbrev tLe : TE → TE → TE := tCmp fun i j => decide (i ≤ j)
abbrev tGt : TE → TE → TE := tCmp fun i j => decide (j < i)
abbrev tGe : TE → TE → TE := tCmp fun i j => decide (j ≤ i)
abbrev tEqI : TE → TE → TE := tCmp fun i j => decide (i = j)
abbrev tNeI : TE → TE → TE := tCmp fun i j => !decide (i = j)
/-- a comparison of two ints, by its rule -/
theorem pc_int {op : CmpOp} {p : Int → Int → Bool} (ha : PE X a ta) (hb : PE X b tb)
    (rule : ∀ (i j : Int) (t u : Tok) (Q : Value → Shared → Prop) (s : Shared), Q (.bool (p i j)) s → wpAny (model X.prog X.w) X.A (compareOp op (.int i t) (.int j u)) Q X.xe s) : PC X op a b (tCmp p ta tb) := by
  intro pins s σ H Q I h
  refine bin ha hb I h fun v u s2 x y H2 I2 rx ry q => ?_
  obtain ⟨i, j, rfl, rfl, q⟩ := q
  obtain ⟨t, rfl⟩ := rx
  obtain ⟨t', rfl⟩ := ry
  exact rule i j t t' _ s2 ⟨.bl _, H2, I2, rfl, q⟩
theorem pc_lt (ha : PE X a ta) (hb : PE X b tb) : PC X .Lt a b (tLt ta tb) := pc_int ha hb fun _ _ _ _ _ _ h => lt_int h
theorem pc_le (ha : PE X a ta) (hb : PE X b tb) : PC X .LtE a b (tLe ta tb) := pc_int ha hb fun _ _ _ _ _ _ h => le_int h
theorem pc_gt (ha : PE X a ta) (hb : PE X b tb) : PC X .Gt a b (tGt ta tb) := pc_int ha hb fun _ _ _ _ _ _ h => gt_int h
theorem pc_ge (ha : PE X a ta) (hb : PE X b tb) : PC X .GtE a b (tGe ta tb) := pc_int ha hb fun _ _ _ _ _ _ h => ge_int h
theorem pc_eqI (ha : PE X a ta) (hb : PE X b tb) : PC X .Eq a b (tEqI ta tb) := pc_int ha hb fun _ _ _ _ _ _ h => eq_int (by rw [Bool.beq_eq_decide_eq]; exact h)
theorem pc_neI (ha : PE X a ta) (hb : PE X b tb) : PC X .NotEq a b (tNeI ta tb) := pc_int ha hb fun _ _ _ _ _ _ h => ne_int (by rw [bne, Bool.beq_eq_decide_eq]; exact h)
/-- is None -/
def tIsN (ta : TE) : TE := fun σ H Q => ta σ H fun x H1 => Q (.bl (decide (x = .non))) H1
def tNotN (ta : TE) : TE := fun σ H Q => ta σ H fun x H1 => Q (.bl (!decide (x = .non))) H1
theorem RelV.none_iff {x : V} {v : Value} (r : RelV x v) : (v == Value.none) = decide (x = .non) := by
  cases x with
  | non => cases r; rfl
  | bl _ => cases r; rfl
  | int _ => obtain ⟨t, rfl⟩ := r; rfl
  | str _ => obtain ⟨t, rfl⟩ := r; rfl
  | byt _ => obtain ⟨t, rfl⟩ := r; rfl
  | flt _ => obtain ⟨t, rfl⟩ := r; rfl
  | ref _ => cases r; rfl
  | ty _ => cases r; rfl
theorem pc_isN {j pos'} (ha : PE X a ta) : PC X .Is a (.Constant .none j pos') (tIsN ta) := by
  intro pins s σ H Q I h
  refine thn (ha pins s σ H _ I h) fun v s1 ⟨x, H1, I1, r1, q1⟩ => ?_
  exact Constant_none (is_none_gen ⟨.bl _, H1, I1, by rw [r1.none_iff]; rfl, q1⟩)
theorem pc_notN {j pos'} (ha : PE X a ta) : PC X .IsNot a (.Constant .none j pos') (tNotN ta) := by
  intro pins s σ H Q I h
  refine thn (ha pins s σ H _ I h) fun v s1 ⟨x, H1, I1, r1, q1⟩ => ?_
  exact Constant_none (isnot_none_gen ⟨.bl _, H1, I1, by rw [r1.none_iff]; rfl, q1⟩)
/-- a comparison as a value, as a test -/
def tB (t : TE) : TT := fun σ H Q => t σ H fun x H1 => ∃ c, x = .bl c ∧ Q c H1
theorem pe_cmp {op : CmpOp} {t : TE} (h : PC X op a b t) (h1 : behindInMarks op b = false := by first | exact nobehind _ (by decide) (by decide) | rfl) : PE X (.Compare a [op] [b] pos) t := fun pins s σ H Q I hw => wpAny_Compare1 (h pins s σ H Q I hw) h1
theorem pt_cmp {op : CmpOp} {t : TE} (h : PC X op a b t) (h1 : behindInMarks op b = false := by first | exact nobehind _ (by decide) (by decide) | rfl) : PT X (.Compare a [op] [b] pos) (tB t) := by
  intro pins s σ H Q I hw
  refine wpAny_isTrue_Compare1 (thn (h pins s σ H _ I hw) fun v s1 h1 => thn h1 fun u s2 h2 => thn h2 fun c s3 ⟨x, H1, I1, r1, q1⟩ => ?_) h1
  obtain ⟨d, rfl, q⟩ := q1
  cases r1
  exact wpAny_truthy_bool ⟨H1, I1, q⟩
/-- an expression whose value is a bool, as a test -/
theorem pt_val {e : Expr} {t : TE} (h : PE X e t) (he : ∀ whole, isTrue e X.env whole = (do let v ← whole; standAt e.pos; holding [v] (truthy v)) := by intro _; rfl) : PT X e (tB t) := by
  intro pins s σ H Q I hw
  refine isTrue_plain (thn (h pins s σ H _ I hw) fun v s1 ⟨x, H1, I1, r1, q1⟩ => ?_) (he _)
  obtain ⟨d, rfl, q⟩ := q1
  cases r1
  exact wpAny_truthy_bool ⟨H1, I1, q⟩

/-! ### and, or, not -/
variable {tA tB' : TT} {rest : List Expr}
def tAnd (t u : TT) : TT := fun σ H Q => t σ H fun c H1 => if c = true then u σ H1 Q else Q false H1
def tOr (t u : TT) : TT := fun σ H Q => t σ H fun c H1 => if c = true then Q true H1 else u σ H1 Q
def tNot (t : TT) : TT := fun σ H Q => t σ H fun c H1 => Q (!c) H1
theorem pw_and1 (ha : PT X a tA) : PW X (.BoolOp .And [a] pos) tA := by
  intro wh pins s σ H Q I h
  refine isTrue_and (thn (ha pins s σ H Q I h) fun c s1 e => ?_)
  cases c with
  | true => exact isTrue_and_nil e
  | false => exact e
theorem pw_or1 (ha : PT X a tA) : PW X (.BoolOp .Or [a] pos) tA := by
  intro wh pins s σ H Q I h
  refine isTrue_or (thn (ha pins s σ H Q I h) fun c s1 e => ?_)
  cases c with
  | false => exact isTrue_or_nil e
  | true => exact e
theorem pw_and (ha : PT X a tA) (hb : PW X (.BoolOp .And (b :: rest) pos) tB') : PW X (.BoolOp .And (a :: b :: rest) pos) (tAnd tA tB') := by
  intro wh pins s σ H Q I h
  refine isTrue_and (thn (ha pins s σ H _ I h) fun c s1 ⟨H1, I1, q1⟩ => ?_)
  cases c with
  | true => exact hb wh pins s1 σ H1 Q I1 q1
  | false => exact ⟨H1, I1, q1⟩
theorem pw_or (ha : PT X a tA) (hb : PW X (.BoolOp .Or (b :: rest) pos) tB') : PW X (.BoolOp .Or (a :: b :: rest) pos) (tOr tA tB') := by
  intro wh pins s σ H Q I h
  refine isTrue_or (thn (ha pins s σ H _ I h) fun c s1 ⟨H1, I1, q1⟩ => ?_)
  cases c with
  | true => exact ⟨H1, I1, q1⟩
  | false => exact hb wh pins s1 σ H1 Q I1 q1
theorem pt_not (ha : PT X a tA) : PT X (.UnaryOp .Not a pos) (tNot tA) := by
  intro pins s σ H Q I h
  exact isTrue_not (ha pins s σ H (fun c H1 => Q (!c) H1) I h)
/-- .. as values (bools) -/
def tAndV (ta tb : TE) : TE := fun σ H Q => ta σ H fun x H1 => ∃ c, x = .bl c ∧ if c = true then tb σ H1 Q else Q (.bl false) H1
def tOrV (ta tb : TE) : TE := fun σ H Q => ta σ H fun x H1 => ∃ c, x = .bl c ∧ if c = true then Q (.bl true) H1 else tb σ H1 Q
def tNotV (ta : TE) : TE := fun σ H Q => ta σ H fun x H1 => ∃ c, x = .bl c ∧ Q (.bl (!c)) H1
theorem pe_one {op} {t : TE} (h : PE X a t) : PE X (.BoolOp op [a] pos) t := fun pins s σ H Q I hw => BoolOp_one (h pins s σ H Q I hw)
theorem pe_and (ha : PE X a ta) (hb : PE X (.BoolOp .And (b :: rest) pos) tb) : PE X (.BoolOp .And (a :: b :: rest) pos) (tAndV ta tb) := by
  intro pins s σ H Q I h
  refine BoolOp_and (thn (ha pins s σ H _ I h) fun v s1 ⟨x, H1, I1, r1, q1⟩ => ?_)
  obtain ⟨c, rfl, q1⟩ := q1
  cases r1
  refine wpAny_truthy_bool ?_
  cases c with
  | true => exact hb pins s1 σ H1 Q I1 q1
  | false => exact ⟨.bl false, H1, I1, rfl, q1⟩
theorem pe_or (ha : PE X a ta) (hb : PE X (.BoolOp .Or (b :: rest) pos) tb) : PE X (.BoolOp .Or (a :: b :: rest) pos) (tOrV ta tb) := by
  intro pins s σ H Q I h
  refine BoolOp_or (thn (ha pins s σ H _ I h) fun v s1 ⟨x, H1, I1, r1, q1⟩ => ?_)
  obtain ⟨c, rfl, q1⟩ := q1
  cases r1
  refine wpAny_truthy_bool ?_
  cases c with
  | false => exact hb pins s1 σ H1 Q I1 q1
  | true => exact ⟨.bl true, H1, I1, rfl, q1⟩
theorem pe_not (ha : PE X a ta) : PE X (.UnaryOp .Not a pos) (tNotV ta) := by
  intro pins s σ H Q I h
  refine UnaryOp_ (thn (ha pins s σ H _ I h) fun v s1 ⟨x, H1, I1, r1, q1⟩ => ?_)
  obtain ⟨c, rfl, q1⟩ := q1
  cases r1
  exact not_of (wpAny_truthy_bool ⟨.bl (!c), H1, I1, rfl, q1⟩)
/-- a if t else b -/
def tIf (t : TT) (ta tb : TE) : TE := fun σ H Q => t σ H fun c H1 => if c = true then ta σ H1 Q else tb σ H1 Q
theorem pe_ifExp {c : Expr} (hc : PT X c tA) (ha : PE X a ta) (hb : PE X b tb) : PE X (.IfExp c a b pos) (tIf tA ta tb) := by
  intro pins s σ H Q I h
  refine wpAny_IfExp (thn (hc pins s σ H _ I h) fun d s1 ⟨H1, I1, q1⟩ => ?_)
  cases d with
  | true => exact ha pins s1 σ H1 Q I1 q1
  | false => exact hb pins s1 σ H1 Q I1 q1
end
end L2

namespace L2
open PySem PySem.Spec PyProof.Rows

/-! ### a list, a tuple that is read: tracked, frozen, or an object of the module -/
def SqL (K : PySem.W.Frag) (H : Hp) (a : Addr) (xs : List V) : Prop :=
  Rd H a (.lst xs) ∨
    ∃ (o : Obj) (its : Array Value) (n : Nat), K.lookup a = some o ∧ o.cls = .type "list" ∧ o.dict = none ∧ o.data = .seq its n ∧ its.size ≤ sizeLine ∧ Vals xs its.toList
def SqT (K : PySem.W.Frag) (H : Hp) (a : Addr) (xs : List V) : Prop :=
  Rd H a (.tup xs) ∨
    ∃ (o : Obj) (its : Array Value) (n : Nat), K.lookup a = some o ∧ o.cls = .type "tuple" ∧ o.data = .seq its n ∧ its.size ≤ sizeLine ∧ Vals xs its.toList
def absV : Value → Option V
  | .none => some .non
  | .bool b => some (.bl b)
  | .int i _ => some (.int i)
  | .str x _ => some (.str x)
  | .bytes b _ => some (.byt b)
  | .float b _ => some (.flt b)
  | .ref a => some (.ref a)
  | .type n => some (.ty n)
  | _ => none
theorem RelV.abs {x : V} {u : Value} (r : RelV x u) : absV u = some x := by
  cases x with
  | non => cases r; rfl
  | bl _ => cases r; rfl
  | int _ => obtain ⟨t, rfl⟩ := r; rfl
  | str _ => obtain ⟨t, rfl⟩ := r; rfl
  | byt _ => obtain ⟨t, rfl⟩ := r; rfl
  | flt _ => obtain ⟨t, rfl⟩ := r; rfl
  | ref _ => cases r; rfl
  | ty _ => cases r; rfl
theorem RelV.inj {x y : V} {u : Value} (r : RelV x u) (q : RelV y u) : x = y := Option.some.inj (r.abs.symm.trans q.abs)
theorem Vals.inj : ∀ {xs ys : List V} {us : List Value}, Vals xs us → Vals ys us → xs = ys
  | _, _, _, .nil, .nil => rfl
  | _, _, _, .cons r t, .cons r' t' => by rw [r.inj r', Vals.inj t t']
section
variable {X : Cx} {pins : List (Addr × Obj)} {σ : St} {H : Hp} {s : Shared} {a : Addr} {xs ys : List V}
theorem SqL.of {K : PySem.W.Frag} (h : H a = some (.lst xs)) : SqL K H a xs := .inl (.inl h)
theorem SqT.of {K : PySem.W.Frag} (h : H a = some (.tup xs)) : SqT K H a xs := .inl (.inl h)
theorem Inv.list (I : Inv X pins σ H s) (h : SqL X.K H a xs) : ∃ its : List Value, Vals xs its ∧ PlainL s.heap a its.toArray ∧ xs.length ≤ sizeLine := by
  rcases h with h | ⟨o, its, n, hk, hc, hd, hs, hz, r⟩
  · obtain ⟨z, its, n, r, e⟩ := h.ok I.hok
    exact ⟨its, r, ⟨_, n, e, rfl, rfl, rfl⟩, z⟩
  · refine ⟨its.toList, r, ⟨o, n, I.kIn a o hk, hc, hd, by simpa using hs⟩, ?_⟩
    have e := r.length
    simp only [Array.length_toList] at e
    omega
theorem Inv.tuple (I : Inv X pins σ H s) (h : SqT X.K H a xs) : ∃ its : List Value, Vals xs its ∧ IsTup s.heap a its.toArray ∧ xs.length ≤ sizeLine := by
  rcases h with h | ⟨o, its, n, hk, hc, hs, hz, r⟩
  · obtain ⟨z, its, r, p⟩ := h.ok I.hok
    exact ⟨its, r, p, z⟩
  · refine ⟨its.toList, r, ⟨o, I.kIn a o hk, hc, n, by simpa using hs⟩, ?_⟩
    have e := r.length
    simp only [Array.length_toList] at e
    omega
theorem Inv.list_inj (I : Inv X pins σ H s) (h : SqL X.K H a xs) (h' : SqL X.K H a ys) : xs = ys := by
  obtain ⟨its, r, ⟨o, n, e, _, _, d⟩, _⟩ := I.list h
  obtain ⟨its', r', ⟨o', n', e', _, _, d'⟩, _⟩ := I.list h'
  rw [e] at e'; cases e'
  rw [d] at d'
  injection d' with d1 _
  have : its = its' := by simpa using congrArg Array.toList d1
  subst this
  exact r.inj r'
theorem Inv.tuple_inj (I : Inv X pins σ H s) (h : SqT X.K H a xs) (h' : SqT X.K H a ys) : xs = ys := by
  obtain ⟨its, r, ⟨o, e, _, n, d⟩, _⟩ := I.tuple h
  obtain ⟨its', r', ⟨o', e', _, n', d'⟩, _⟩ := I.tuple h'
  rw [e] at e'; cases e'
  rw [d] at d'
  injection d' with d1 _
  have : its = its' := by simpa using congrArg Array.toList d1
  subst this
  exact r.inj r'
end

/-! ### another wish about exceptions -/
abbrev Cx.wish (X : Cx) (E : Value → Shared → Prop) : Cx := { X with xe := E }
/-- no exception leaves -/
abbrev Cx.nox (X : Cx) : Cx := X.wish fun _ _ => False
theorem Cx.Ok.wish {X : Cx} (ok : X.Ok) (E : Value → Shared → Prop) : (X.wish E).Ok :=
  ⟨ok.mod, ok.kind, ok.glob, ok.blt, ok.above, ok.inj, ok.has, ok.cab, ok.hd, ok.frames, ok.stk, ok.exf, ok.bs, ok.bsz, ok.noex, ok.exfs, ok.funs, ok.frf⟩
theorem Cx.Ok.unwish {X : Cx} {E : Value → Shared → Prop} (ok : (X.wish E).Ok) : X.Ok :=
  ⟨ok.mod, ok.kind, ok.glob, ok.blt, ok.above, ok.inj, ok.has, ok.cab, ok.hd, ok.frames, ok.stk, ok.exf, ok.bs, ok.bsz, ok.noex, ok.exfs, ok.funs, ok.frf⟩
section
variable {X : Cx} {pins : List (Addr × Obj)} {σ : St} {H : Hp} {s : Shared} {E : Value → Shared → Prop}
theorem Inv.wish (I : Inv X pins σ H s) (E : Value → Shared → Prop) : Inv (X.wish E) pins σ H s := ⟨I.ok.wish E, I.os, I.bare, I.base, I.loc, I.cell, I.free, I.freeC, I.pin, I.hok, I.len⟩
theorem Inv.unwish (I : Inv (X.wish E) pins σ H s) : Inv X pins σ H s := ⟨I.ok.unwish, I.os, I.bare, I.base, I.loc, I.cell, I.free, I.freeC, I.pin, I.hok, I.len⟩
theorem SP.unwish {D : Ends} {f : Flow} {s' : Shared} (h : SP (X.wish E) pins D f s') : SP X pins D f s' := by
  cases f with
  | next => obtain ⟨σ', H', I, q⟩ := h; exact ⟨σ', H', I.unwish, q⟩
  | brk => obtain ⟨σ', H', I, q⟩ := h; exact ⟨σ', H', I.unwish, q⟩
  | cont => obtain ⟨σ', H', I, q⟩ := h; exact ⟨σ', H', I.unwish, q⟩
  | ret u => obtain ⟨v, σ', H', I, r, q⟩ := h; exact ⟨v, σ', H', I.unwish, r, q⟩
theorem PE.nox {e : Expr} {t : TE} (h : PE X.nox e t) : PE X e t := fun pins s σ H Q I hw =>
  wpAny_mono (h pins s σ H Q (I.wish _) hw) (fun _ _ ⟨v, H', I', r, q⟩ => ⟨v, H', I'.unwish, r, q⟩) fun _ _ z => False.elim z
theorem PT.nox {e : Expr} {t : TT} (h : PT X.nox e t) : PT X e t := fun pins s σ H Q I hw =>
  wpAny_mono (h pins s σ H Q (I.wish _) hw) (fun _ _ ⟨H', I', q⟩ => ⟨H', I'.unwish, q⟩) fun _ _ z => False.elim z
theorem PSs.nox {st : List Stmt} {t : TS} (h : PSs X.nox st t) : PSs X st t := fun pins s σ H D I hw =>
  wpAny_mono (h pins s σ H D (I.wish _) hw) (fun _ _ q => q.unwish) fun _ _ z => False.elim z
end

/-! ### blocks and small statements -/
section
variable {X : Cx} {st : Stmt} {rest : List Stmt} {t u : TS} {e : Expr} {te : TE} {pos : Pos}
def tNext : TS := fun D σ H => D.nx σ H
def tSeq (t u : TS) : TS := fun D σ H => t { D with nx := u D } σ H
theorem pss_nil : PSs X [] tNext := fun _ _ σ H _ I h => wpAny_execs_nil ⟨σ, H, I, h⟩
theorem pss_cons (h1 : PS X st t) (h2 : PSs X rest u) : PSs X (st :: rest) (tSeq t u) := by
  intro pins s σ H D I h
  refine wpAny_execs_cons (thn (h1 pins s σ H { D with nx := u D } I h) fun f s1 q => ?_)
  cases f with
  | next =>
    obtain ⟨σ', H', I', q⟩ := q
    exact h2 pins s1 σ' H' D I' q
  | ret v => exact q
  | brk => exact q
  | cont => exact q
theorem pss_one (h1 : PS X st t) : PSs X [st] t := by
  intro pins s σ H D I h
  refine wpAny_execs_cons (thn (h1 pins s σ H D I h) fun f s1 q => ?_)
  cases f with
  | next => exact wpAny_execs_nil q
  | ret v => exact q
  | brk => exact q
  | cont => exact q
def tBreak : TS := fun D σ H => D.bk σ H
def tCont : TS := fun D σ H => D.ct σ H
theorem ps_pass : PS X (.Pass pos) tNext := fun _ _ σ H _ I h => wpAny_Pass ⟨σ, H, I, h⟩
theorem ps_break : PS X (.Break pos) tBreak := fun _ _ σ H _ I h => wpAny_Break ⟨σ, H, I, h⟩
theorem ps_continue : PS X (.Continue pos) tCont := fun _ _ σ H _ I h => wpAny_Continue ⟨σ, H, I, h⟩
/-- in a def's body nothing is shown -/
theorem Inv.quiet {pins : List (Addr × Obj)} {σ : St} {H : Hp} {s : Shared} (I : Inv X pins σ H s) : interactive X.env = false := by simp [interactive, I.ok.kind]
/-- a docstring -/
theorem ps_doc {x j pos pos'} : PS X (.Expr (.Constant (.str x) j pos) pos') tNext := fun _ s σ H _ I h => wpAny_Expr (Calls.Constant_str (show SP X _ _ .next { s with toks := s.toks + 1 } from ⟨σ, H, I.tok _, h⟩)) I.quiet
/-- an expression whose value is dropped -/
def tDrop (te : TE) : TS := fun D σ H => te σ H fun _ H1 => D.nx σ H1
theorem ps_expr (he : PE X e te) (hs : swapsWith e none pos.line X.env = pure false := by rfl) : PS X (.Expr e pos) (tDrop te) := by
  intro pins s σ H D I h
  exact wpAny_Expr_any (thn (he pins s σ H _ I h) fun v s1 ⟨x, H1, I1, r1, q1⟩ => ⟨σ, H1, I1, q1⟩) I.quiet hs
def tRet (te : TE) : TS := fun D σ H => te σ H D.rt
theorem ps_ret (he : PE X e te) : PS X (.Return (some e) pos) (tRet te) := by
  intro pins s σ H D I h
  exact wpAny_Return_some (thn (he pins s σ H _ I h) fun v s1 ⟨x, H1, I1, r1, q1⟩ => ⟨x, σ, H1, I1, r1, q1⟩)
def tRetN : TS := fun D _ H => D.rt .non H
theorem ps_retN : PS X (.Return none pos) tRetN := fun _ _ σ H _ I h => wpAny_Return_none ⟨.non, σ, H, I, rfl, h⟩
def tIfS (c : TT) (t u : TS) : TS := fun D σ H => c σ H fun b H1 => if b = true then t D σ H1 else u D σ H1
theorem ps_if {c : Expr} {a b : List Stmt} {tc : TT} (hc : PT X c tc) (ha : PSs X a t) (hb : PSs X b u) : PS X (.If c a b pos) (tIfS tc t u) := by
  intro pins s σ H D I h
  refine wpAny_If (thn (hc pins s σ H _ I h) fun d s1 ⟨H1, I1, q1⟩ => ?_)
  cases d with
  | true => exact ha pins s1 σ H1 D I1 q1
  | false => exact hb pins s1 σ H1 D I1 q1
/-- code that the proof never comes to -/
def tNever : TS := fun _ _ _ => False
theorem ps_never : PS X st tNever := fun _ _ _ _ _ _ h => h.elim
theorem pss_never {sts : List Stmt} : PSs X sts tNever := fun _ _ _ _ _ _ h => h.elim
end

/-! ### targets -/
abbrev TG := V → St → Hp → (St → Hp → Prop) → Prop
abbrev TGs := List V → St → Hp → (St → Hp → Prop) → Prop
def PG (X : Cx) (target : Expr) (t : TG) : Prop :=
  ∀ (pins : List (Addr × Obj)) (s : Shared) (σ : St) (H : Hp) (v : V) (u : Value) (Q : St → Hp → Prop), Inv X pins σ H s → RelV v u → t v σ H Q →
    wpAny (model X.prog X.w) X.A (assign target X.env u) (fun _ s' => ∃ σ' H', Inv X pins σ' H' s' ∧ Q σ' H') X.xe s
/-- several targets, one after another -/
def PGs (X : Cx) (ts : List Expr) (t : TGs) : Prop :=
  ∀ (pins : List (Addr × Obj)) (s : Shared) (σ : St) (H : Hp) (vs : List V) (us : List Value) (Q : St → Hp → Prop), Inv X pins σ H s → Vals vs us → t vs σ H Q →
    wpAny (model X.prog X.w) X.A (assignInOrder ((assignEach ts X.env).map (·.2)) us) (fun _ s' => ∃ σ' H', Inv X pins σ' H' s' ∧ Q σ' H') X.xe s
/-- o[i] = v, by values -/
abbrev TSet := V → V → V → Hp → (Hp → Prop) → Prop
def PSet (X : Cx) (t : TSet) : Prop :=
  ∀ (pins : List (Addr × Obj)) (s : Shared) (σ : St) (H : Hp) (o i v : V) (ov iv u : Value) (Q : Hp → Prop), Inv X pins σ H s → RelV o ov → RelV i iv → RelV v u → t o i v H Q →
    wpAny (model X.prog X.w) X.A (setItem ov iv u) (fun _ s' => ∃ H', Inv X pins σ H' s' ∧ Q H') X.xe s
/-- a op= b, by values -/
abbrev TIp := V → V → Hp → VK → Prop
def PIp (X : Cx) (op : Operator) (t : TIp) : Prop :=
  ∀ (pins : List (Addr × Obj)) (s : Shared) (σ : St) (H : Hp) (x y : V) (v u : Value) (Q : VK), Inv X pins σ H s → RelV x v → RelV y u → t x y H Q →
    wpAny (model X.prog X.w) X.A (inplaceOp op v u) (EP X pins σ Q) X.xe s
section
variable {X : Cx} {pos : Pos}
def gName (i : Nat) : TG := fun v σ H Q => Q (σ.set i (some v)) H
theorem pg_name {i : Nat} {x : Str} (hN : X.N.Nodup) (hi : X.N[i]? = some x) (hx : Loc X.env.scope x) (hf : X.fn x = true ∨ X.env.scope.names.lookup x = some .local := by first | exact .inl rfl | exact .inr rfl | assumption) : PG X (.Name x pos) (gName i) := by
  intro pins s σ H v u Q I r h
  exact wpAny_assign_Name (store_ok I hN hi hx r (fun s' I' => ⟨_, H, I', h⟩) hf)
def gNil : TGs := fun vs σ H Q => vs = [] ∧ Q σ H
def gCons (t : TG) (u : TGs) : TGs := fun vs σ H Q => ∃ v r, vs = v :: r ∧ t v σ H fun σ' H' => u r σ' H' Q
theorem pgs_nil : PGs X [] gNil := by
  intro pins s σ H vs us Q I r h
  obtain ⟨e, h⟩ := h
  subst e
  cases r
  exact assignInOrder_nil ⟨σ, H, I, h⟩
theorem pgs_cons {e : Expr} {es : List Expr} {t : TG} {u : TGs} (h1 : PG X e t) (h2 : PGs X es u)
    (hs : (assignEach (e :: es) X.env).map (·.2) = assign e X.env :: (assignEach es X.env).map (·.2) := by rfl) : PGs X (e :: es) (gCons t u) := by
  intro pins s σ H vs us Q I r h
  obtain ⟨v, vr, e1, h⟩ := h
  subst e1
  cases r with
  | cons r rr =>
    rw [hs]
    refine assignInOrder_cons (thn (h1 pins s σ H _ _ _ I r h) fun _ s1 ⟨σ1, H1, I1, q1⟩ => ?_)
    exact h2 pins s1 σ1 H1 _ _ Q I1 rr q1
/-- (a, b, ..) = a tuple of that length -/
def gTup (K : PySem.W.Frag) (n : Nat) (t : TGs) : TG := fun v σ H Q => ∃ a xs, v = .ref a ∧ SqT K H a xs ∧ xs.length = n ∧ t xs σ H Q
theorem pg_tup {es : List Expr} {k : Nat} {t : TGs} {n : Nat} (hc : X.calm = true) (h : PGs X es t)
    (hn : (assignEach es X.env).length = n := by rfl) (hst : (assignEach es X.env).findIdx? (·.1) = none := by rfl) : PG X (.Tuple es k pos) (gTup X.K n t) := by
  intro pins s σ H v u Q I r hw
  obtain ⟨a, xs, e1, hq, hl, hw⟩ := hw
  subst e1
  cases r
  obtain ⟨its, rv, ht, hz⟩ := I.tuple hq
  refine assign_Tuple_tuple (I.ok.hd hc) ht (by simp [hn, ← hl, rv.length]) hst fun h' hx => ?_
  have I1 : Inv X pins σ H { s with heap := h' } := I.kept (t' := s.toks) fun b o e => hx b o (Nat.ne_of_lt (Heap.lt_size e)) e
  exact h pins _ σ H xs _ Q I1 (by simpa using rv) hw
/-- o[i] = .. -/
def gSub (to ti : TE) (t : TSet) : TG := fun v σ H Q => to σ H fun o H1 => ti σ H1 fun i H2 => t o i v H2 fun H3 => Q σ H3
theorem pg_sub {o i : Expr} {to ti : TE} {t : TSet} (ho : PE X o to) (hi : PE X i ti) (hs : PSet X t)
    (ha : ∀ v, assign (.Subscript o i pos) X.env v = (do
      let ov ← holding [v] (eval o X.env)
      let iv ← holding [v, ov] (eval i X.env)
      standAt pos
      holding [v, ov, iv] (setItem ov iv v)
      release [v, ov, iv] []) := by intro _; rfl) : PG X (.Subscript o i pos) (gSub to ti t) := by
  intro pins s σ H v u Q I r h
  rw [ha]
  refine wpAny_bind (wpAny_holding (thn (ho pins s σ H _ I h) fun ov s1 ⟨x, H1, I1, r1, q1⟩ => ?_))
  refine wpAny_bind (wpAny_holding (thn (hi pins s1 σ H1 _ I1 q1) fun iv s2 ⟨y, H2, I2, r2, q2⟩ => ?_))
  refine wpAny_bind (wpAny_standAt (wpAny_bind (wpAny_holding (thn (hs pins s2 σ H2 x y v ov iv u _ I2 r1 r2 r q2) fun _ s3 ⟨H3, I3, q3⟩ => ?_))))
  exact wpAny_release ⟨σ, H3, I3, q3⟩
/-- target = value -/
def tAsg (te : TE) (g : TG) : TS := fun D σ H => te σ H fun x H1 => g x σ H1 D.nx
theorem ps_asg {tg e : Expr} {te : TE} {g : TG} (he : PE X e te) (hg : PG X tg g) (hs : swapsWithSole [tg] e pos.line X.env = pure false := by rfl) (hw : swappedStores [tg] e X.env = pure none := by rfl)
    (h1 : (assignEach [tg] X.env).map (·.2) = [assign tg X.env] := by rfl) : PS X (.Assign [tg] e pos) (tAsg te g) := by
  intro pins s σ H D I h
  refine wpAny_Assign_stores (thn (he pins s σ H _ I h) fun v s1 ⟨x, H1, I1, r1, q1⟩ => ?_) hs hw
  rw [h1]
  exact thn (hg pins s1 σ H1 x v _ I1 r1 q1) fun _ s2 q => q
/-- name = value -/
theorem ps_set {i : Nat} {x : Str} {e : Expr} {te : TE} {pos' : Pos} (hN : X.N.Nodup) (hi : X.N[i]? = some x) (hx : Loc X.env.scope x) (he : PE X e te) (hs : swapsWith e (some (.Name x pos')) pos.line X.env = pure false := by rfl) (hf : X.fn x = true ∨ X.env.scope.names.lookup x = some .local := by first | exact .inl rfl | exact .inr rfl | assumption) :
    PS X (.Assign [.Name x pos'] e pos) (tAsg te (gName i)) := by
  intro pins s σ H D I h
  refine wpAny_Assign_Name (thn (he pins s σ H _ I h) fun v s1 ⟨y, H1, I1, r1, q1⟩ => ?_) hs
  exact store_ok I1 hN hi hx r1 (fun s2 I2 => ⟨_, H1, I2, q1⟩) hf
/-- a, b = x, y with plain local names: stored from the right; the pair itself is not tracked (the opening rows as in PyProof/Rows/TupAssign.lean:23) -/
def tPar (i j : Nat) (ta : TA) : TS := fun D σ H => ta σ H fun vs H1 => ∃ v w, vs = [v, w] ∧ D.nx ((σ.set i (some v)).set j (some w)) H1
theorem ps_par {i j : Nat} {x y : Str} {a b : Expr} {ta : TA} {px py pt : Pos} {kt k2 pt2} (hc : X.calm = true) (hN : X.N.Nodup) (hi : X.N[i]? = some x) (hj : X.N[j]? = some y) (hij : i ≠ j)
    (hx : X.env.scope.names.lookup x = some .local) (hy : X.env.scope.names.lookup y = some .local) (ha : PA X [a, b] ta)
    (hw : swappedStores [.Tuple [.Name x px, .Name y py] kt pt] (.Tuple [a, b] k2 pt2) X.env = pure (some [x, y]))
    (hs : swapsWithSole [.Tuple [.Name x px, .Name y py] kt pt] (.Tuple [a, b] k2 pt2) pos.line X.env = pure false := by rfl) :
    PS X (.Assign [.Tuple [.Name x px, .Name y py] kt pt] (.Tuple [a, b] k2 pt2) pos) (tPar i j ta) := by
  intro pins s σ H D I h
  rw [exec_Assign_arm]
  refine wpAny_bind (wpAny_standAt ?_)
  rw [hs]
  refine wpAny_bind (wpAny_pure ?_)
  rw [if_neg (by decide)]
  refine wpAny_bind (Tuple_ (thn (ha _ pins s σ H _ I h) fun us s1 ⟨vs, H1, I1, r1, q1⟩ => ?_))
  obtain ⟨v, w, e1, q1⟩ := q1
  subst e1
  obtain ⟨u1, u2, rfl, rv, rw'⟩ : ∃ u1 u2, us = [u1, u2] ∧ RelV v u1 ∧ RelV w u2 := by
    cases r1 with
    | cons p q =>
      cases q with
      | cons p' q' =>
        cases q'
        exact ⟨_, _, rfl, p, p'⟩
  refine wpAny_newObj_type ?_ (by show 2 ≤ sizeLine; decide)
  have I2 : Inv X pins σ H1 { s1 with heap := s1.heap.push { cls := .type "tuple", data := .seq [u1, u2].toArray } } := I1.kept (t' := s1.toks) fun b o e => Heap.get?_push_of_some _ e
  rw [hw]
  refine wpAny_bind (wpAny_pure ?_)
  show wpAny (model X.prog X.w) X.A (do rule "assign.swapped-stores"; let items ← unpackItems (.ref s1.heap.objs.size) 2 none; assignInOrder [fun v => bindName X.env y v, fun v => bindName X.env x v] items.reverse; pure Flow.next) _ _ _
  refine wpAny_bind (wpAny_rule (wpAny_bind (unpackItems_tuple (items := #[u1, u2]) (I.ok.hd hc) (IsTup.new s1.heap _) fun h' hx' => ?_)))
  have I3 := I2.kept (h' := h') (t' := s1.toks) fun b o e => hx' b o (Nat.ne_of_lt (Heap.lt_size e)) e
  show wpAny _ _ (assignInOrder [fun v => bindName X.env y v, fun v => bindName X.env x v] [u2, u1] >>= fun _ => pure Flow.next) _ _ _
  refine wpAny_bind (assignInOrder_cons (wpAny_bindName (store_ok I3 hN hj (.inl hy) rw' (fun s2 I4 => ?_) (.inr hy))))
  refine assignInOrder_cons (wpAny_bindName (store_ok I4 hN hi (.inl hx) rv (fun s3 I5 => assignInOrder_nil (wpAny_pure ?_)) (.inr hx)))
  rw [List.set_comm _ _ (Ne.symm hij)] at I5
  exact ⟨_, H1, I5, q1⟩
/-- name op= e -/
def tAug (i : Nat) (te : TE) (ti : TIp) : TS := fun D σ H => ∃ x, σ[i]? = some (some x) ∧ te σ H fun y H1 => ti x y H1 fun z H2 => D.nx (σ.set i (some z)) H2
theorem ps_aug {i : Nat} {x : Str} {e : Expr} {te : TE} {op : Operator} {ti : TIp} {pos' : Pos} (hN : X.N.Nodup) (hi : X.N[i]? = some x) (hx : Loc X.env.scope x) (he : PE X e te) (ho : PIp X op ti) (hf : X.fn x = true ∨ X.env.scope.names.lookup x = some .local := by first | exact .inl rfl | exact .inr rfl | assumption) :
    PS X (.AugAssign (.Name x pos') op e pos) (tAug i te ti) := by
  intro pins s σ H D I h
  obtain ⟨v, e1, h⟩ := h
  obtain ⟨m, hn, hl⟩ := I.loc
  have vis : Vis X.env.scope x := by rcases hx with k | k; exact .inl k; exact .inr (.inl k)
  obtain ⟨u, r, l⟩ := hl i x v hi e1 vis
  refine wpAny_AugAssign_Name ?_
  have go : wpAny (model X.prog X.w) X.A (eval e X.env) (fun w s₂ => wpAny (model X.prog X.w) X.A (inplaceOp op u w) (fun r s₃ => wpAny (model X.prog X.w) X.A (storeName X.env x r) (fun _ => SP X pins D .next) X.xe s₃) X.xe s₂) X.xe s := by
    refine thn (he pins s σ H _ I h) fun w s1 ⟨y, H1, I1, r1, q1⟩ => ?_
    refine thn (ho pins s1 σ H1 v y u w _ I1 r r1 q1) fun z s2 ⟨zv, H2, I2, r2, q2⟩ => ?_
    exact store_ok I2 hN hi hx r2 (fun s3 I3 => ⟨_, H2, I3, q2⟩) hf
  rcases l with ⟨hk, hm⟩ | ⟨hk, c, hc, hcell⟩
  · exact wpAny_loadName_local I.ok.kind hk hn hm go
  · rcases hk with hk | hk
    · exact wpAny_loadName_cell I.ok.kind hk hc hcell go
    · rcases hx with k | k
      · have : X.env.scope.names.lookup x = some .free := hk
        rw [k] at this; cases this
      · have : X.env.scope.names.lookup x = some .free := hk
        rw [k] at this; cases this
/-- o[i] op= e -/
def tAugS (to ti te : TE) (tget : V → V → Hp → VK → Prop) (tip : TIp) (tset : TSet) : TS := fun D σ H => to σ H fun o H1 => ti σ H1 fun i H2 => tget o i H2 fun x H3 => te σ H3 fun y H4 => tip x y H4 fun z H5 => tset o i z H5 fun H6 => D.nx σ H6
/-- o[i], by values -/
def PGet (X : Cx) (t : V → V → Hp → VK → Prop) : Prop :=
  ∀ (pins : List (Addr × Obj)) (s : Shared) (σ : St) (H : Hp) (o i : V) (ov iv : Value) (Q : VK), Inv X pins σ H s → RelV o ov → RelV i iv → t o i H Q →
    wpAny (model X.prog X.w) X.A (getItem ov iv) (EP X pins σ Q) X.xe s
theorem ps_augS {o i e : Expr} {to ti te : TE} {tget : V → V → Hp → VK → Prop} {tip : TIp} {tset : TSet} {op : Operator} {tpos : Pos} (ho : PE X o to) (hi : PE X i ti) (hg : PGet X tget) (he : PE X e te) (hp : PIp X op tip) (hs : PSet X tset)
    (ha : ∀ ov iv new, augStore i ov iv new = (do holding [new, ov, iv] (setItem ov iv new); release [new, ov, iv] []; pure .next) := by intros; rfl) : PS X (.AugAssign (.Subscript o i tpos) op e pos) (tAugS to ti te tget tip tset) := by
  intro pins s σ H D I h
  refine wpAny_AugAssign_SubscriptAny (thn (ho pins s σ H _ I h) fun ov s1 ⟨x1, H1, I1, r1, q1⟩ => ?_) ha
  refine thn (hi pins s1 σ H1 _ I1 q1) fun iv s2 ⟨x2, H2, I2, r2, q2⟩ => ?_
  refine thn (hg pins s2 σ H2 x1 x2 ov iv _ I2 r1 r2 q2) fun old s3 ⟨x3, H3, I3, r3, q3⟩ => ?_
  refine thn (he pins s3 σ H3 _ I3 q3) fun v s4 ⟨x4, H4, I4, r4, q4⟩ => ?_
  refine thn (hp pins s4 σ H4 x3 x4 old v _ I4 r3 r4 q4) fun new s5 ⟨x5, H5, I5, r5, q5⟩ => ?_
  exact thn (hs pins s5 σ H5 x1 x2 x5 ov iv new _ I5 r1 r2 r5 q5) fun _ s6 ⟨H6, I6, q6⟩ => ⟨σ, H6, I6, q6⟩
/-- ints -/
def ipI (f : Int → Int → Int) : TIp := fun x y H Q => ∃ i j, x = .int i ∧ y = .int j ∧ Q (.int (f i j)) H
theorem ip_add : PIp X .Add (ipI fun i j => i + j) := by
  intro pins s σ H x y v u Q I r1 r2 h
  obtain ⟨i, j, e1, e2, q⟩ := h
  subst e1; subst e2
  obtain ⟨t, rfl⟩ := r1
  obtain ⟨t', rfl⟩ := r2
  exact iadd_int ⟨.int _, H, I.tok _, ⟨_, rfl⟩, q⟩
theorem ip_sub : PIp X .Sub (ipI fun i j => i - j) := by
  intro pins s σ H x y v u Q I r1 r2 h
  obtain ⟨i, j, e1, e2, q⟩ := h
  subst e1; subst e2
  obtain ⟨t, rfl⟩ := r1
  obtain ⟨t', rfl⟩ := r2
  exact isub_int ⟨.int _, H, I.tok _, ⟨_, rfl⟩, q⟩
end

/-! ### while -/
section
variable {X : Cx} {pos : Pos}
/-- the invariant W with its measure -/
def tWhile (c : TT) (tb : TS) : TS := fun D σ H => ∃ W : Nat → St → Hp → Prop, (∃ m, W m σ H) ∧ ∀ m σ H, W m σ H →
  c σ H fun b H1 => if b = true then ∃ N : St → Hp → Prop, (∀ σ' H', N σ' H' → ∃ m', m' < m ∧ W m' σ' H') ∧ tb { D with nx := N, ct := N, bk := D.nx } σ H1 else D.nx σ H1
theorem ps_while {c : Expr} {body : List Stmt} {tc : TT} {tb : TS} (hp : PassesOwn (model X.prog X.w) X.A X.env X.xe) (hc : PT X c tc) (hb : PSs X body tb) : PS X (.While c body [] pos) (tWhile tc tb) := by
  intro pins s σ H D I h
  obtain ⟨W, ⟨m0, w0⟩, turn⟩ := h
  refine wpAny_While (codeAny_whileLoop (fun n s' => ∃ σ' H', Inv X pins σ' H' s' ∧ W n σ' H') ?_ m0 ⟨σ, H, I, w0⟩)
  rintro n s1 ⟨σ1, H1, I1, w1⟩
  refine wpAny_passesOwn hp (thn (hc pins s1 σ1 H1 _ I1 (turn n σ1 H1 w1)) fun b s2 ⟨H2, I2, q2⟩ => ?_)
  cases b with
  | true =>
    obtain ⟨N, hN, q2⟩ := q2
    rw [if_pos rfl]
    refine wpAny_passesOwn hp (thn (hb pins s2 σ1 H2 _ I2 q2) fun f s3 q3 => ?_)
    cases f with
    | next =>
      obtain ⟨σ3, H3, I3, n3⟩ := q3
      obtain ⟨m', hm, w3⟩ := hN σ3 H3 n3
      exact ⟨m', hm, σ3, H3, I3, w3⟩
    | cont =>
      obtain ⟨σ3, H3, I3, n3⟩ := q3
      obtain ⟨m', hm, w3⟩ := hN σ3 H3 n3
      exact ⟨m', hm, σ3, H3, I3, w3⟩
    | brk => exact q3
    | ret v => exact q3
  | false =>
    rw [if_neg Bool.false_ne_true]
    exact wpAny_execs_nil ⟨σ1, H2, I2, q2⟩
end

/-! ### what a loop or a comprehension walks -/
/-- at turn i: it yields x (the heap may grow), or it stops -/
structure It where
  go : Nat → Hp → Prop
  yld : Nat → Hp → V → Hp → Prop
  stop : Nat → Hp → Prop
/-- the iterator's own objects may turn: they are not the frame's, not pinned, younger than the entry (or a comprehension's own) -/
def FpOk (X : Cx) (pins : List (Addr × Obj)) (H : Hp) (b : Addr) : Prop :=
  H b = none ∧ b ≠ X.env.locals ∧ b ∉ X.fs ∧ (b ∈ X.ex ∨ X.s₀.heap.objs.size ≤ b) ∧ (∀ x c, X.env.cells.lookup x = some c → c ≠ b) ∧ ∀ p ∈ X.pn ++ pins, p.1 ≠ b
theorem Inv.fpOk {X : Cx} {pins : List (Addr × Obj)} {σ : St} {H H' : Hp} {s : Shared} {b : Addr} (I : Inv X pins σ H s) (hb : s.heap.objs.size ≤ b) (hn : H' b = none) : FpOk X pins H' b := by
  refine ⟨hn, Nat.ne_of_gt (Nat.lt_of_lt_of_le I.lt hb), I.nofs hb, .inr (Nat.le_trans I.sz hb), fun x c e z => ?_, fun p hp z => ?_⟩
  · obtain ⟨v, q⟩ := I.cell x c e
    exact absurd (Nat.lt_of_lt_of_le q.lt (by rw [z]; exact hb)) (Nat.lt_irrefl _)
  · exact absurd (Nat.lt_of_lt_of_le (Heap.lt_size (I.pin p hp).1) (by rw [z]; exact hb)) (Nat.lt_irrefl _)
structure Turn (P : Program) (w : World) (K : PySem.W.Frag) (tg : Expr) (J : It) (fp : List Addr) (it : Addr) (tn : Nat → Heap → Prop) : Prop where
  mem : it ∈ fp
  obj : ∀ i h, tn i h → ∀ b ∈ fp, ∃ o, h.get? b = some o ∧ ∀ v, o.data ≠ .cell v
  keep : ∀ i h h', tn i h → (∀ b ∈ fp, ∀ o, h.get? b = some o → h'.get? b = some o) → tn i h'
  item : ∀ (X : Cx), X.prog = P → X.w = w → X.K = K → X.calm = true → ∀ (i : Nat) (pins : List (Addr × Obj)) (s : Shared) (σ : St) (H : Hp) (E : Value → Shared → Prop), Inv X pins σ H s → (∀ b ∈ fp, FpOk X pins H b) → tn i s.heap → J.go i H →
    wpAny (model P w) X.A (pyNext (.ref it)) (fun r s1 => ∃ u, r = some u ∧
      wpAny (model P w) X.A (letOwnedTupleGo tg (.ref it) u) (fun _ s2 => ∃ x H', Inv X pins σ H' s2 ∧ RelV x u ∧ J.yld i H x H' ∧ tn (i + 1) s2.heap ∧ ∀ b ∈ fp, H' b = none) E s1) E s
  done : ∀ (X : Cx), X.prog = P → X.w = w → X.K = K → X.calm = true → ∀ (i : Nat) (pins : List (Addr × Obj)) (s : Shared) (σ : St) (H : Hp) (E : Value → Shared → Prop), Inv X pins σ H s → (∀ b ∈ fp, FpOk X pins H b) → tn i s.heap → J.stop i H →
    wpAny (model P w) X.A (pyNext (.ref it)) (fun r s1 => r = none ∧ Inv X pins σ H s1) E s
  self : ∀ (A : Around) (i : Nat) (s : Shared) (Q : Value → Shared → Prop) (E : Value → Shared → Prop), tn i s.heap → Q (.ref it) s → wpAny (model P w) A (pyIter (.ref it)) Q E s
abbrev TI := St → Hp → (It → Hp → Prop) → Prop
/-- an iterator has come -/
def PIE (X : Cx) (pins : List (Addr × Obj)) (σ : St) (tg : Expr) (R : It → Hp → Prop) (itv : Value) (s2 : Shared) : Prop :=
  ∃ (it : Addr) (fp : List Addr) (tn : Nat → Heap → Prop) (J : It) (H' : Hp), itv = .ref it ∧ Inv X pins σ H' s2 ∧ Turn X.prog X.w X.K tg J fp it tn ∧ tn 0 s2.heap ∧ (∀ b ∈ fp, FpOk X pins H' b) ∧ R J H'
def PI (X : Cx) (tg iter : Expr) (wi : TI) : Prop :=
  ∀ (pins : List (Addr × Obj)) (s : Shared) (σ : St) (H : Hp) (R : It → Hp → Prop), Inv X pins σ H s → wi σ H R →
    wpAny (model X.prog X.w) X.A (eval iter X.env) (fun v s1 => wpAny (model X.prog X.w) X.A (pyIter v) (PIE X pins σ tg R) X.xe s1) X.xe s

/-- the step ahead of the store is nothing for an iterator that keeps no tuple -/
theorem go_of {M : Model} {A : Around} {E : Value → Shared → Prop} {s : Shared} {tg : Expr} {it : Addr} {u : Value} {o : Obj} {n : String} {vs : Array Value} {Q : Unit → Shared → Prop} (ho : s.heap.get? it = some o) (hc : o.cls = .type n) (hd : o.data = .fields vs)
    (hn : ["enumerate", "zip", "dict_itemiterator", "dict_reverseitemiterator", "odict_iterator", "itertools.zip_longest", "itertools.pairwise"].contains n = false) (hQ : Q () s) : wpAny M A (letOwnedTupleGo tg (.ref it) u) Q E s := by
  unfold letOwnedTupleGo
  cases tg <;> first
    | exact wpAny_pure hQ
    | (cases u <;> first
        | exact wpAny_pure hQ
        | (refine wpAny_bind (wpAny_load ho ?_)
           rw [hc, hd]
           show wpAny M A (if (["enumerate", "zip", "dict_itemiterator", "dict_reverseitemiterator", "odict_iterator", "itertools.zip_longest", "itertools.pairwise"].contains n && vs[0]? == some (rawInt _)) = true then _ else _) Q E s
           rw [if_neg (by intro h; rw [hn, Bool.false_and] at h; cases h)]
           exact wpAny_pure hQ))

/-- the list at a, as it stands at each turn (a loop may append to it) -/
def Itl (K : PySem.W.Frag) (a : Addr) : It :=
  ⟨fun i H => ∃ xs x, SqL K H a xs ∧ xs[i]? = some x, fun i H x H' => H' = H ∧ ∀ xs, SqL K H a xs → xs[i]? = some x, fun i H => ∃ xs, SqL K H a xs ∧ xs.length ≤ i⟩
def Itt (K : PySem.W.Frag) (a : Addr) : It :=
  ⟨fun i H => ∃ xs x, SqT K H a xs ∧ xs[i]? = some x, fun i H x H' => H' = H ∧ ∀ xs, SqT K H a xs → xs[i]? = some x, fun i H => ∃ xs, SqT K H a xs ∧ xs.length ≤ i⟩
/-- lo, lo + 1, .. (n of them) -/
def Itr (lo : Int) (n : Nat) : It := ⟨fun i _ => i < n, fun i H x H' => H' = H ∧ x = .int (lo + i), fun i _ => n ≤ i⟩
theorem turn_list {P : Program} {w : World} {K : PySem.W.Frag} {tg : Expr} (a it : Addr) : Turn P w K tg (Itl K a) [it] it (fun i h => h.IsListIter it a i) where
  mem := by simp
  obj := fun i h st b hb => by
    have e : b = it := by simpa using hb
    subst e
    obtain ⟨o, e, c, d⟩ := st
    exact ⟨o, e, fun v z => by rw [d] at z; cases z⟩
  keep := fun i h h' st k => st.at fun o e => k it (by simp) o e
  item := by
    intro X hP hw hK hc i pins s σ H E I hf st hg
    subst hP hw hK
    obtain ⟨xs, x, hq, hx⟩ := hg
    obtain ⟨its, rv, p, hz⟩ := I.list hq
    obtain ⟨u, hu, ru⟩ := rv.get hx
    obtain ⟨f0, f1, f2, f3, f4, f5⟩ := hf it (by simp)
    refine wpAny_pyNext_list_item st p.isList (x := u) (by simpa using hu) fun h' st' sb => ?_
    have I1 : Inv X pins σ H { s with heap := h' } := I.turned (t' := s.toks) (fun b o hb e => (sb.2 b hb).trans e) f0 f1 f3 f4 f5
    obtain ⟨o, e, c, d⟩ := id st'
    exact ⟨u, rfl, go_of (s := { s with heap := h' }) e c d (by decide) ⟨x, H, I1, ru, ⟨rfl, fun ys hy => by rw [I.list_inj hy hq]; exact hx⟩, st', fun b hb => (hf b hb).1⟩⟩
  done := by
    intro X hP hw hK hc i pins s σ H E I hf st hg
    subst hP hw hK
    obtain ⟨xs, hq, hx⟩ := hg
    obtain ⟨its, rv, p, hz⟩ := I.list hq
    obtain ⟨f0, f1, f2, f3, f4, f5⟩ := hf it (by simp)
    have hl := rv.length
    exact wpAny_pyNext_list_end (I.ok.hd hc) st p.isList (by simp; omega) fun h' eb => ⟨rfl, I.turned (t' := s.toks) (fun b o hb e => eb b o hb e) f0 f1 f3 f4 f5⟩
  self := fun _ _ _ _ _ st h => wpAny_pyIter_listiter st h
theorem turn_tuple {P : Program} {w : World} {K : PySem.W.Frag} {tg : Expr} (a it : Addr) : Turn P w K tg (Itt K a) [it] it (fun i h => h.IsTupleIter it a i) where
  mem := by simp
  obj := fun i h st b hb => by
    have e : b = it := by simpa using hb
    subst e
    obtain ⟨o, e, c, d⟩ := st
    exact ⟨o, e, fun v z => by rw [d] at z; cases z⟩
  keep := fun i h h' st k => st.at fun o e => k it (by simp) o e
  item := by
    intro X hP hw hK hc i pins s σ H E I hf st hg
    subst hP hw hK
    obtain ⟨xs, x, hq, hx⟩ := hg
    obtain ⟨its, rv, p, hz⟩ := I.tuple hq
    obtain ⟨u, hu, ru⟩ := rv.get hx
    obtain ⟨f0, f1, f2, f3, f4, f5⟩ := hf it (by simp)
    refine wpAny_pyNext_tuple_item st (show s.heap.IsTuple a its.toArray from p) (x := u) (by simpa using hu) fun h' st' sb => ?_
    have I1 : Inv X pins σ H { s with heap := h' } := I.turned (t' := s.toks) (fun b o hb e => (sb.2 b hb).trans e) f0 f1 f3 f4 f5
    obtain ⟨o, e, c, d⟩ := id st'
    exact ⟨u, rfl, go_of (s := { s with heap := h' }) e c d (by decide) ⟨x, H, I1, ru, ⟨rfl, fun ys hy => by rw [I.tuple_inj hy hq]; exact hx⟩, st', fun b hb => (hf b hb).1⟩⟩
  done := by
    intro X hP hw hK hc i pins s σ H E I hf st hg
    subst hP hw hK
    obtain ⟨xs, hq, hx⟩ := hg
    obtain ⟨its, rv, p, hz⟩ := I.tuple hq
    obtain ⟨f0, f1, f2, f3, f4, f5⟩ := hf it (by simp)
    have hl := rv.length
    exact wpAny_pyNext_tuple_end (I.ok.hd hc) st (show s.heap.IsTuple a its.toArray from p) (by simp; omega) fun h' eb => ⟨rfl, I.turned (t' := s.toks) (fun b o hb e => eb b o hb e) f0 f1 f3 f4 f5⟩
  self := fun _ _ _ _ _ st h => wpAny_pyIter_tupleiter st h
theorem turn_range {P : Program} {w : World} {K : PySem.W.Frag} {tg : Expr} (it : Addr) (lo : Int) (n : Nat) : Turn P w K tg (Itr lo n) [it] it (fun i h => IsRangeIter h it (lo + (i : Nat) * 1) ((n : Int) - (i : Nat)) 1) where
  mem := by simp
  obj := fun i h st b hb => by
    have e : b = it := by simpa using hb
    subst e
    exact ⟨_, st, fun v z => by
      have z' : Data.fields _ = Data.cell v := z
      cases z'⟩
  keep := fun i h h' st k => k it (by simp) _ st
  item := by
    intro X hP hw hK hc i pins s σ H E I hf st hg
    subst hP hw hK
    obtain ⟨f0, f1, f2, f3, f4, f5⟩ := hf it (by simp)
    have W := Walks.range (prog := X.prog) (w := X.w) (I.ok.hd hc) it lo 1 n
    refine W.item i s _ _ hg st fun v h' tk hv st' kk => ?_
    obtain ⟨t, rfl⟩ := hv
    have I1 : Inv X pins σ H { s with heap := h', toks := tk } := I.turned (fun b o hb e => kk b o (by simpa using hb) e) f0 f1 f3 f4 f5
    refine ⟨_, rfl, go_of (s := { s with heap := h', toks := tk }) (n := "range_iterator") st' rfl rfl (by decide) ⟨.int (lo + i), H, I1, ⟨t, ?_⟩, ⟨rfl, rfl⟩, st', fun b hb => (hf b hb).1⟩⟩
    rw [Int.mul_one]
  done := by
    intro X hP hw hK hc i pins s σ H E I hf st hg
    subst hP hw hK
    obtain ⟨f0, f1, f2, f3, f4, f5⟩ := hf it (by simp)
    exact wpAny_pyNext_range_end (I.ok.hd hc) st (by have : n ≤ i := hg; omega) fun h' eb => ⟨rfl, I.turned (t' := s.toks) (fun b o hb e => eb b o hb e) f0 f1 f3 f4 f5⟩
  self := fun _ _ _ _ _ st h => wpAny_pyIter_rangeiter st h
end L2

namespace L2
open PySem PySem.Spec PyProof.Rows
section
variable {X : Cx} {tg : Expr}
def iList (K : PySem.W.Frag) (tl : TE) : TI := fun σ H R => tl σ H fun x H1 => ∃ a, x = .ref a ∧ (∃ xs, SqL K H1 a xs) ∧ R (Itl K a) H1
def iTup (K : PySem.W.Frag) (tl : TE) : TI := fun σ H R => tl σ H fun x H1 => ∃ a, x = .ref a ∧ (∃ xs, SqT K H1 a xs) ∧ R (Itt K a) H1
theorem pi_list {l : Expr} {tl : TE} (hl : PE X l tl) : PI X tg l (iList X.K tl) := by
  intro pins s σ H R I h
  refine thn (hl pins s σ H _ I h) fun v s1 ⟨x, H1, I1, r1, q1⟩ => ?_
  obtain ⟨a, e, ⟨xs, hq⟩, q⟩ := q1
  subst e
  cases r1
  obtain ⟨its, rv, p, hz⟩ := I1.list hq
  refine wpAny_pyIter_list p.isList ?_
  refine ⟨s1.heap.objs.size, [s1.heap.objs.size], _, _, H1, rfl, I1.kept (t' := s1.toks) fun b o e => Heap.get?_push_of_some _ e, turn_list a _, ⟨_, Heap.get?_push_size _ rfl, rfl, rfl⟩, fun b hb => ?_, q⟩
  have e : b = s1.heap.objs.size := by simpa using hb
  subst e
  exact I1.fpOk (Nat.le_refl _) (I1.hok.fresh (Nat.le_refl _))
theorem pi_tup {l : Expr} {tl : TE} (hl : PE X l tl) : PI X tg l (iTup X.K tl) := by
  intro pins s σ H R I h
  refine thn (hl pins s σ H _ I h) fun v s1 ⟨x, H1, I1, r1, q1⟩ => ?_
  obtain ⟨a, e, ⟨xs, hq⟩, q⟩ := q1
  subst e
  cases r1
  obtain ⟨its, rv, p, hz⟩ := I1.tuple hq
  refine wpAny_pyIter_tuple (show s1.heap.IsTuple a its.toArray from p) ?_
  refine ⟨s1.heap.objs.size, [s1.heap.objs.size], _, _, H1, rfl, I1.kept (t' := s1.toks) fun b o e => Heap.get?_push_of_some _ e, turn_tuple a _, ⟨_, Heap.get?_push_size _ rfl, rfl, rfl⟩, fun b hb => ?_, q⟩
  have e : b = s1.heap.objs.size := by simpa using hb
  subst e
  exact I1.fpOk (Nat.le_refl _) (I1.hok.fresh (Nat.le_refl _))
/-- a range object just made, walked -/
theorem range_it {pins : List (Addr × Obj)} {σ : St} {H : Hp} {s : Shared} {R : It → Hp → Prop} {E : Value → Shared → Prop} {lo hi : Int} {t u v : Tok} {tk : Nat} (I : Inv X pins σ H s) (h1 : -(2 ^ 62) ≤ lo) (h2 : lo < 2 ^ 62) (h3 : -(2 ^ 62) ≤ hi) (h4 : hi < 2 ^ 62)
    (q : R (Itr lo (hi - lo).toNat) H) : wpAny (model X.prog X.w) X.A (pyIter (.ref s.heap.objs.size)) (PIE X pins σ tg R) E { s with heap := s.heap.push { cls := .type "range", data := .fields #[.int lo t, .int hi u, .int 1 v] }, toks := tk } := by
  refine wpAny_pyIter_range (IsRange.new ..) (small_one h1 h2 h3 h4) ?_
  have I1 : Inv X pins σ H { s with heap := s.heap.push { cls := .type "range", data := .fields #[.int lo t, .int hi u, .int 1 v] }, toks := tk } := I.kept fun b o e => Heap.get?_push_of_some _ e
  refine ⟨(s.heap.push { cls := .type "range", data := .fields #[.int lo t, .int hi u, .int 1 v] }).objs.size, [(s.heap.push { cls := .type "range", data := .fields #[.int lo t, .int hi u, .int 1 v] }).objs.size], _, _, H, rfl,
    I1.kept (t' := tk) fun b o e => Heap.get?_push_of_some _ e, turn_range _ lo (hi - lo).toNat, ?_, fun b hb => ?_, q⟩
  · have e1 : lo + ((0 : Nat) : Int) * 1 = lo := by simp
    have e2 : (((hi - lo).toNat : Nat) : Int) - ((0 : Nat) : Int) = Builtin.Range.rangeSize lo hi 1 := by rw [rangeSize_one]; split <;> omega
    show IsRangeIter _ _ (lo + ((0 : Nat) : Int) * 1) ((((hi - lo).toNat : Nat) : Int) - ((0 : Nat) : Int)) 1
    rw [e1, e2]
    exact Heap.get?_push_size _ rfl
  · have e : b = (s.heap.push { cls := .type "range", data := .fields #[.int lo t, .int hi u, .int 1 v] }).objs.size := by simpa using hb
    subst e
    exact I1.fpOk (Nat.le_refl _) (I1.hok.fresh (Nat.le_refl _))
def iRng1 (ta : TA) : TI := fun σ H R => ta σ H fun vs H1 => ∃ j : Int, vs = [.int j] ∧ -(2 ^ 62) ≤ j ∧ j < 2 ^ 62 ∧ R (Itr 0 j.toNat) H1
def iRng2 (ta : TA) : TI := fun σ H R => ta σ H fun vs H1 => ∃ i j : Int, vs = [.int i, .int j] ∧ (-(2 ^ 62) ≤ i ∧ i < 2 ^ 62 ∧ -(2 ^ 62) ≤ j ∧ j < 2 ^ 62) ∧ R (Itr i (j - i).toNat) H1
theorem pi_range1 {a : Expr} {ta : TA} {p pos : Pos} (hg : Gl X "range") (hm : X.mg "range" = none) (ha : PA X [a] ta) (hs : starEach [a] X.env = [(false, eval a X.env)] := by rfl) : PI X tg (.Call (.Name "range" p) [a] [] pos) (iRng1 ta) := by
  intro pins s σ H R I h
  refine Call_ (ld_blt I hg hm boot_range (PyProof.Rows.callWith_type1 (thn (ha pos pins s σ H _ I h) fun us s1 ⟨vs, H1, I1, r1, q1⟩ => ?_) hs rfl))
  obtain ⟨j, e, q1, q2, q⟩ := q1
  subst e
  cases r1 with
  | cons r rr =>
    cases rr
    obtain ⟨t, rfl⟩ := r
    exact call_range_1 (range_it I1 (by omega) (by omega) q1 q2 (by simpa using q))
theorem pi_range2 {a b : Expr} {ta : TA} {p pos : Pos} (hg : Gl X "range") (hm : X.mg "range" = none) (ha : PA X [a, b] ta) (hs : starEach [a, b] X.env = [(false, eval a X.env), (false, eval b X.env)] := by rfl) (hs2 : starEach [b] X.env = [(false, eval b X.env)] := by rfl) :
    PI X tg (.Call (.Name "range" p) [a, b] [] pos) (iRng2 ta) := by
  intro pins s σ H R I h
  refine Call_ (ld_blt I hg hm boot_range (PyProof.Rows.callWith_type1 (thn (ha pos pins s σ H _ I h) fun us s1 ⟨vs, H1, I1, r1, q1⟩ => ?_) (by rw [hs, hs2]) (by rw [hs2]; rfl)))
  obtain ⟨i, j, e, ⟨q1, q2, q3, q4⟩, q⟩ := q1
  subst e
  cases r1 with
  | cons r rr =>
    cases rr with
    | cons r' rr =>
      cases rr
      obtain ⟨t, rfl⟩ := r
      obtain ⟨t', rfl⟩ := r'
      exact call_range_2 (range_it I1 q1 q2 q3 q4 q)

/-! ### for -/
/-- W: the invariant by the turn and a measure; N: what the body is to reach -/
def tFor (wi : TI) (g : TG) (tb : TS) : TS := fun D σ H => wi σ H fun J H1 => ∃ W : Nat → Nat → St → Hp → Prop, (∃ m, W 0 m σ H1) ∧ ∀ i m σ H, W i m σ H →
  (J.stop i H ∧ D.nx σ H) ∨ (J.go i H ∧ ∃ N : St → Hp → Prop, (∀ σ' H', N σ' H' → ∃ m', m' < m ∧ W (i + 1) m' σ' H') ∧ ∀ x H', J.yld i H x H' → g x σ H' fun σ2 H2 => tb { D with nx := N, ct := N, bk := D.nx } σ2 H2)
/-- the records at fp as they stand -/
def pinsAt (fp : List Addr) (h : Heap) : List (Addr × Obj) := fp.filterMap fun b => (h.get? b).map fun o => (b, o)
theorem mem_pinsAt {fp : List Addr} {h : Heap} {b : Addr} {o : Obj} (hb : b ∈ fp) (e : h.get? b = some o) : (b, o) ∈ pinsAt fp h := List.mem_filterMap.mpr ⟨b, hb, by rw [e]; rfl⟩
theorem of_pinsAt {fp : List Addr} {h : Heap} {p : Addr × Obj} (hp : p ∈ pinsAt fp h) : p.1 ∈ fp ∧ h.get? p.1 = some p.2 := by
  obtain ⟨b, hb, e⟩ := List.mem_filterMap.mp hp
  cases q : h.get? b with
  | none => rw [q] at e; cases e
  | some o =>
    rw [q] at e
    have e' : (b, o) = p := Option.some.inj e
    subst e'
    exact ⟨hb, q⟩
theorem Inv.pinned {pins : List (Addr × Obj)} {σ : St} {H : Hp} {s : Shared} {fp : List Addr} (I : Inv X pins σ H s) (hf : ∀ b ∈ fp, FpOk X pins H b) (ho : ∀ b ∈ fp, ∃ o, s.heap.get? b = some o ∧ ∀ v, o.data ≠ .cell v) : Inv X (pins ++ pinsAt fp s.heap) σ H s :=
  I.pins_of fun p hp => (List.mem_append.mp hp).elim (fun z => I.pin p (List.mem_append_right _ z)) fun z => by
    obtain ⟨hb, e⟩ := of_pinsAt z
    obtain ⟨f0, f1, f2, _⟩ := hf p.1 hb
    obtain ⟨o, e', d⟩ := ho p.1 hb
    rw [e] at e'; cases e'
    exact ⟨e, f0, f1, f2, d⟩
theorem Inv.unpinned {pins pl : List (Addr × Obj)} {σ : St} {H : Hp} {s : Shared} (I : Inv X (pins ++ pl) σ H s) : Inv X pins σ H s := I.pins_of fun p hp => I.pin p (List.mem_append_right _ (List.mem_append_left _ hp))
theorem ps_for {iter : Expr} {body : List Stmt} {wi : TI} {g : TG} {tb : TS} {pos : Pos} (hp : PassesOwn (model X.prog X.w) X.A X.env X.xe) (hc : X.calm = true) (hi : PI X tg iter wi) (hg : PG X tg g) (hb : PSs X body tb)
    (hs : ∀ x, foldedSetIterable iter X.env x = pure x := by intro _; rfl) : PS X (.For tg iter body [] pos) (tFor wi g tb) := by
  intro pins s σ H D I h
  refine wpAny_For (thn (hi pins s σ H _ I h) fun v s1 h1 => thn h1 fun itv s2 h2 => ?_) hs
  obtain ⟨it, fp, tn, J, H2, e, I2, T, st2, f2, W, ⟨m0, w0⟩, turn⟩ := h2
  subst e
  -- what stays true of the iterator's objects through the loop
  have stat : ∀ {H' : Hp}, (∀ b ∈ fp, H' b = none) → ∀ b ∈ fp, FpOk X pins H' b := fun hn b hb => ⟨hn b hb, (f2 b hb).2⟩
  refine codeAny_forLoop_any (fun n s' => ∃ i σ' H', Inv X pins σ' H' s' ∧ tn i s'.heap ∧ (∀ b ∈ fp, H' b = none) ∧ W i n σ' H') ?_ m0 ⟨0, σ, H2, I2, st2, fun b hb => (f2 b hb).1, w0⟩
  rintro n s3 ⟨i, σ3, H3, I3, st3, fr3, w3⟩
  rcases turn i n σ3 H3 w3 with ⟨stop, qn⟩ | ⟨go, N, hN, step⟩
  · refine wpAny_passesOwn hp (thn (T.done X rfl rfl rfl hc i pins s3 σ3 H3 X.xe I3 (stat fr3) st3 stop) fun r s4 ⟨hr, I4⟩ => ?_)
    subst hr
    exact wpAny_execs_nil ⟨σ3, H3, I4, qn⟩
  · refine wpAny_passesOwn hp (thn (T.item X rfl rfl rfl hc i pins s3 σ3 H3 X.xe I3 (stat fr3) st3 go) fun r s4 ⟨u, hr, h4⟩ => ?_)
    subst hr
    refine wpAny_passesOwn hp (thn h4 fun _ s5 ⟨x, H5, I5, r5, y5, st5, fr5⟩ => ?_)
    have I5' := I5.pinned (stat fr5) (T.obj _ _ st5)
    refine wpAny_passesOwn hp (thn (hg _ s5 σ3 H5 x u _ I5' r5 (step x H5 y5)) fun _ s6 ⟨σ6, H6, I6, q6⟩ => ?_)
    refine wpAny_passesOwn hp (thn (hb _ s6 σ6 H6 _ I6 q6) fun f s7 q7 => ?_)
    have again : ∀ {σ7 : St} {H7 : Hp}, Inv X (pins ++ pinsAt fp s5.heap) σ7 H7 s7 → N σ7 H7 → ∃ m, m < n ∧ ∃ i σ' H', Inv X pins σ' H' s7 ∧ tn i s7.heap ∧ (∀ b ∈ fp, H' b = none) ∧ W i m σ' H' := fun {σ7 H7} I7 n7 => by
      obtain ⟨m', hm, w7⟩ := hN σ7 H7 n7
      refine ⟨m', hm, i + 1, σ7, H7, I7.unpinned, T.keep _ _ _ st5 fun b hb o e => (I7.pin (b, o) (List.mem_append_right _ (List.mem_append_right _ (mem_pinsAt hb e)))).1, fun b hb => ?_, w7⟩
      obtain ⟨o, e, d⟩ := T.obj _ _ st5 b hb
      exact (I7.pin (b, o) (List.mem_append_right _ (List.mem_append_right _ (mem_pinsAt hb e)))).2.1
    cases f with
    | next => obtain ⟨σ7, H7, I7, n7⟩ := q7; exact again I7 n7
    | cont => obtain ⟨σ7, H7, I7, n7⟩ := q7; exact again I7 n7
    | brk => obtain ⟨σ7, H7, I7, q7⟩ := q7; exact ⟨σ7, H7, I7.unpinned, q7⟩
    | ret v => obtain ⟨x7, σ7, H7, I7, r7, q7⟩ := q7; exact ⟨x7, σ7, H7, I7.unpinned, r7, q7⟩
end

/-! ### the forms one uses -/
/-- over a list that the body leaves as it is -/
theorem for_list {K : PySem.W.Frag} {a : Addr} {xs : List V} {g : TG} {tb : TS} {D : Ends} {σ : St} {H : Hp} (Pv : Nat → St → Hp → Prop) (h0 : Pv 0 σ H) (hl : ∀ i σ H, i ≤ xs.length → Pv i σ H → SqL K H a xs)
    (hs : ∀ i x σ H, xs[i]? = some x → Pv i σ H → g x σ H fun σ2 H2 => tb { D with nx := Pv (i + 1), ct := Pv (i + 1), bk := D.nx } σ2 H2) (hd : ∀ σ H, Pv xs.length σ H → D.nx σ H) :
    ∃ W : Nat → Nat → St → Hp → Prop, (∃ m, W 0 m σ H) ∧ ∀ i m σ H, W i m σ H →
      ((Itl K a).stop i H ∧ D.nx σ H) ∨ ((Itl K a).go i H ∧ ∃ N : St → Hp → Prop, (∀ σ' H', N σ' H' → ∃ m', m' < m ∧ W (i + 1) m' σ' H') ∧ ∀ x H', (Itl K a).yld i H x H' → g x σ H' fun σ2 H2 => tb { D with nx := N, ct := N, bk := D.nx } σ2 H2) := by
  refine ⟨fun i m σ H => m = xs.length - i ∧ i ≤ xs.length ∧ Pv i σ H, ⟨xs.length, by simp, Nat.zero_le _, h0⟩, ?_⟩
  rintro i m σ H ⟨rfl, hi, p⟩
  have q := hl i σ H hi p
  by_cases hlt : i < xs.length
  · refine .inr ⟨⟨xs, xs[i], q, by simp [hlt]⟩, Pv (i + 1), fun σ' H' p' => ⟨xs.length - (i + 1), by omega, rfl, hlt, p'⟩, fun x H' y => ?_⟩
    obtain ⟨e, y⟩ := y
    subst e
    exact hs i x σ _ (y xs q) p
  · have e : i = xs.length := by omega
    subst e
    exact .inl ⟨⟨xs, q, Nat.le_refl _⟩, hd σ H p⟩
theorem for_tup {K : PySem.W.Frag} {a : Addr} {xs : List V} {g : TG} {tb : TS} {D : Ends} {σ : St} {H : Hp} (Pv : Nat → St → Hp → Prop) (h0 : Pv 0 σ H) (hl : ∀ i σ H, i ≤ xs.length → Pv i σ H → SqT K H a xs)
    (hs : ∀ i x σ H, xs[i]? = some x → Pv i σ H → g x σ H fun σ2 H2 => tb { D with nx := Pv (i + 1), ct := Pv (i + 1), bk := D.nx } σ2 H2) (hd : ∀ σ H, Pv xs.length σ H → D.nx σ H) :
    ∃ W : Nat → Nat → St → Hp → Prop, (∃ m, W 0 m σ H) ∧ ∀ i m σ H, W i m σ H →
      ((Itt K a).stop i H ∧ D.nx σ H) ∨ ((Itt K a).go i H ∧ ∃ N : St → Hp → Prop, (∀ σ' H', N σ' H' → ∃ m', m' < m ∧ W (i + 1) m' σ' H') ∧ ∀ x H', (Itt K a).yld i H x H' → g x σ H' fun σ2 H2 => tb { D with nx := N, ct := N, bk := D.nx } σ2 H2) := by
  refine ⟨fun i m σ H => m = xs.length - i ∧ i ≤ xs.length ∧ Pv i σ H, ⟨xs.length, by simp, Nat.zero_le _, h0⟩, ?_⟩
  rintro i m σ H ⟨rfl, hi, p⟩
  have q := hl i σ H hi p
  by_cases hlt : i < xs.length
  · refine .inr ⟨⟨xs, xs[i], q, by simp [hlt]⟩, Pv (i + 1), fun σ' H' p' => ⟨xs.length - (i + 1), by omega, rfl, hlt, p'⟩, fun x H' y => ?_⟩
    obtain ⟨e, y⟩ := y
    subst e
    exact hs i x σ _ (y xs q) p
  · have e : i = xs.length := by omega
    subst e
    exact .inl ⟨⟨xs, q, Nat.le_refl _⟩, hd σ H p⟩
theorem for_range {lo : Int} {n : Nat} {g : TG} {tb : TS} {D : Ends} {σ : St} {H : Hp} (Pv : Nat → St → Hp → Prop) (h0 : Pv 0 σ H)
    (hs : ∀ i σ H, i < n → Pv i σ H → g (.int (lo + i)) σ H fun σ2 H2 => tb { D with nx := Pv (i + 1), ct := Pv (i + 1), bk := D.nx } σ2 H2) (hd : ∀ σ H, Pv n σ H → D.nx σ H) :
    ∃ W : Nat → Nat → St → Hp → Prop, (∃ m, W 0 m σ H) ∧ ∀ i m σ H, W i m σ H →
      ((Itr lo n).stop i H ∧ D.nx σ H) ∨ ((Itr lo n).go i H ∧ ∃ N : St → Hp → Prop, (∀ σ' H', N σ' H' → ∃ m', m' < m ∧ W (i + 1) m' σ' H') ∧ ∀ x H', (Itr lo n).yld i H x H' → g x σ H' fun σ2 H2 => tb { D with nx := N, ct := N, bk := D.nx } σ2 H2) := by
  refine ⟨fun i m σ H => m = n - i ∧ i ≤ n ∧ Pv i σ H, ⟨n, by simp, Nat.zero_le _, h0⟩, ?_⟩
  rintro i m σ H ⟨rfl, hi, p⟩
  by_cases hlt : i < n
  · refine .inr ⟨hlt, Pv (i + 1), fun σ' H' p' => ⟨n - (i + 1), by omega, rfl, hlt, p'⟩, fun x H' y => ?_⟩
    obtain ⟨e, y⟩ := y
    subst e y
    exact hs i σ _ hlt p
  · have e : i = n := by omega
    subst e
    exact .inl ⟨Nat.le_refl _, hd σ H p⟩
/-- while, by a word and a measure of the state -/
theorem while_by {c : TT} {tb : TS} {D : Ends} {σ : St} {H : Hp} (Pv : St → Hp → Prop) (μ : St → Hp → Nat) (h0 : Pv σ H)
    (hs : ∀ σ H, Pv σ H → c σ H fun b H1 => if b = true then tb { D with nx := fun σ' H' => Pv σ' H' ∧ μ σ' H' < μ σ H, ct := fun σ' H' => Pv σ' H' ∧ μ σ' H' < μ σ H, bk := D.nx } σ H1 else D.nx σ H1)
    (mono : ∀ σ H Q Q', (∀ b H1, Q b H1 → Q' b H1) → c σ H Q → c σ H Q') : tWhile c tb D σ H := by
  refine ⟨fun m σ H => m = μ σ H ∧ Pv σ H, ⟨_, rfl, h0⟩, ?_⟩
  rintro m σ H ⟨rfl, p⟩
  refine mono σ H _ _ (fun b H1 q => ?_) (hs σ H p)
  cases b with
  | true => exact ⟨_, fun σ' H' ⟨p', l⟩ => ⟨_, l, rfl, p'⟩, q⟩
  | false => exact q
end L2

namespace L2
open PySem PySem.Spec PyProof.Rows

abbrev R2 := V → V → Hp → VK → Prop
/-- a two-place operation on values: f is binaryOp op, inplaceOp op or compareOp op -/
def OpR (X : Cx) (f : Value → Value → Sem Value) (r : R2) : Prop :=
  ∀ (pins : List (Addr × Obj)) (s : Shared) (σ : St) (H : Hp) (x y : V) (v u : Value) (Q : VK), Inv X pins σ H s → RelV x v → RelV y u → r x y H Q →
    wpAny (model X.prog X.w) X.A (f v u) (EP X pins σ Q) X.xe s
/-- a one-place operation -/
def UnR (X : Cx) (f : Value → Sem Value) (r : V → Hp → VK → Prop) : Prop :=
  ∀ (pins : List (Addr × Obj)) (s : Shared) (σ : St) (H : Hp) (x : V) (v : Value) (Q : VK), Inv X pins σ H s → RelV x v → r x H Q →
    wpAny (model X.prog X.w) X.A (f v) (EP X pins σ Q) X.xe s
/-- a call of a value that is known (a builtin, a type) with values -/
def CallR (X : Cx) (f : Value) (r : List V → Hp → VK → Prop) : Prop :=
  ∀ (pins : List (Addr × Obj)) (s : Shared) (σ : St) (H : Hp) (xs : List V) (us : List Value) (Q : VK), Inv X pins σ H s → Vals xs us → r xs H Q →
    wpAny (model X.prog X.w) X.A (call f us) (EP X pins σ Q) X.xe s
/-- a value's truth -/
def TruR (X : Cx) (r : V → Hp → (Bool → Hp → Prop) → Prop) : Prop :=
  ∀ (pins : List (Addr × Obj)) (s : Shared) (σ : St) (H : Hp) (x : V) (v : Value) (Q : Bool → Hp → Prop), Inv X pins σ H s → RelV x v → r x H Q →
    wpAny (model X.prog X.w) X.A (truthy v) (TP X pins σ Q) X.xe s

def tOp (r : R2) (ta tb : TE) : TE := fun σ H Q => ta σ H fun x H1 => tb σ H1 fun y H2 => r x y H2 Q
def tUn (r : V → Hp → VK → Prop) (ta : TE) : TE := fun σ H Q => ta σ H fun x H1 => r x H1 Q
/-- ints in, under C, and a value out -/
def rI (C : Int → Int → Prop) (g : Int → Int → V) : R2 := fun x y H Q => ∃ i j, x = .int i ∧ y = .int j ∧ C i j ∧ Q (g i j) H
def rI0 (g : Int → Int → V) : R2 := fun x y H Q => ∃ i j, x = .int i ∧ y = .int j ∧ Q (g i j) H
def rU (g : Int → V) : V → Hp → VK → Prop := fun x H Q => ∃ i, x = .int i ∧ Q (g i) H

section
variable {X : Cx} {a b c : Expr} {ta tb tc : TE} {pos : Pos}

theorem binT (ha : PE X a ta) (hb : PE X b tb) {pins : List (Addr × Obj)} {s : Shared} {σ : St} {H : Hp} {R : V → V → Hp → Prop} (I : Inv X pins σ H s)
    (h : ta σ H fun x H1 => tb σ H1 fun y H2 => R x y H2) {Q : Value → Shared → Prop} {f : Value → Value → Sem Value}
    (hf : ∀ v u s2 x y H2, Inv X pins σ H2 s2 → RelV x v → RelV y u → R x y H2 → wpAny (model X.prog X.w) X.A (f v u) Q X.xe s2) :
    wpAny (model X.prog X.w) X.A (eval a X.env) (fun v s₁ => wpAny (model X.prog X.w) X.A (eval b X.env) (fun u s₂ => wpAny (model X.prog X.w) X.A (f v u) Q X.xe s₂) X.xe s₁) X.xe s := by
  refine thn (ha pins s σ H _ I h) fun v s1 ⟨x, H1, I1, r1, q1⟩ => ?_
  refine thn (hb pins s1 σ H1 _ I1 q1) fun u s2 ⟨y, H2, I2, r2, q2⟩ => ?_
  exact hf v u s2 x y H2 I2 r1 r2 q2

theorem pe_op {op : Operator} {r : R2} (ho : OpR X (binaryOp op) r) (ha : PE X a ta) (hb : PE X b tb) : PE X (.BinOp a op b pos) (tOp r ta tb) := by
  intro pins s σ H Q I h
  exact wpAny_BinOp (binT ha hb I h fun v u s2 x y H2 I2 rx ry q => ho pins s2 σ H2 x y v u Q I2 rx ry q)
theorem pe_un {op : UnaryOp} {r : V → Hp → VK → Prop} (ho : UnR X (unaryOp op) r) (ha : PE X a ta) : PE X (.UnaryOp op a pos) (tUn r ta) := by
  intro pins s σ H Q I h
  exact UnaryOp_ (thn (ha pins s σ H _ I h) fun v s1 ⟨x, H1, I1, r1, q1⟩ => ho pins s1 σ H1 x v Q I1 r1 q1)
/-- a op= e at a name: the name's slot i -/
theorem augR {op : Operator} {r : R2} (ho : OpR X (inplaceOp op) r) {pins : List (Addr × Obj)} {s : Shared} {σ : St} {H : Hp} {x y : V} {v u : Value} {Q : VK} (I : Inv X pins σ H s)
    (rx : RelV x v) (ry : RelV y u) (q : r x y H Q) : wpAny (model X.prog X.w) X.A (inplaceOp op v u) (EP X pins σ Q) X.xe s := ho pins s σ H x y v u Q I rx ry q

/-! ### ints -/
theorem opI {f : Value → Value → Sem Value} {C : Int → Int → Prop} {g : Int → Int → Int}
    (rule : ∀ (i j : Int) (t u : Tok) (s : Shared) (Q : Value → Shared → Prop) (E : Value → Shared → Prop), C i j → Q (.int (g i j) s.toks) { s with toks := s.toks + 1 } → wpAny (model X.prog X.w) X.A (f (.int i t) (.int j u)) Q E s) :
    OpR X f (rI C fun i j => .int (g i j)) := by
  intro pins s σ H x y v u Q I rx ry h
  obtain ⟨i, j, rfl, rfl, hc, q⟩ := h
  obtain ⟨t, rfl⟩ := rx
  obtain ⟨t', rfl⟩ := ry
  exact rule i j t t' s _ _ hc ⟨.int (g i j), H, I.tok _, ⟨_, rfl⟩, q⟩
theorem opI0 {f : Value → Value → Sem Value} {g : Int → Int → Int}
    (rule : ∀ (i j : Int) (t u : Tok) (s : Shared) (Q : Value → Shared → Prop) (E : Value → Shared → Prop), Q (.int (g i j) s.toks) { s with toks := s.toks + 1 } → wpAny (model X.prog X.w) X.A (f (.int i t) (.int j u)) Q E s) :
    OpR X f (rI0 fun i j => .int (g i j)) := by
  intro pins s σ H x y v u Q I rx ry h
  obtain ⟨i, j, rfl, rfl, q⟩ := h
  obtain ⟨t, rfl⟩ := rx
  obtain ⟨t', rfl⟩ := ry
  exact rule i j t t' s _ _ ⟨.int (g i j), H, I.tok _, ⟨_, rfl⟩, q⟩
theorem opB0 {f : Value → Value → Sem Value} {g : Int → Int → Bool}
    (rule : ∀ (i j : Int) (t u : Tok) (s : Shared) (Q : Value → Shared → Prop) (E : Value → Shared → Prop), Q (.bool (g i j)) s → wpAny (model X.prog X.w) X.A (f (.int i t) (.int j u)) Q E s) :
    OpR X f (rI0 fun i j => .bl (g i j)) := by
  intro pins s σ H x y v u Q I rx ry h
  obtain ⟨i, j, rfl, rfl, q⟩ := h
  obtain ⟨t, rfl⟩ := rx
  obtain ⟨t', rfl⟩ := ry
  exact rule i j t t' s _ _ ⟨.bl (g i j), H, I, rfl, q⟩

def CDiv (i j : Int) : Prop := 0 < j ∧ j < 1073741824
def CDivN (i j : Int) : Prop := j ≠ 0 ∧ j.natAbs < 1073741824
def CPow (i j : Int) : Prop := 0 ≤ j ∧ j ≤ 1000000 ∧ i.natAbs < 2 ^ 64
def CMul (i j : Int) : Prop := (-(2 ^ 64) < i ∧ i < 2 ^ 64) ∨ (-(2 ^ 64) < j ∧ j < 2 ^ 64)
theorem CMul.ok {i j : Int} (h : CMul i j) : IntMulOk i j := by
  rcases h with ⟨h1, h2⟩ | ⟨h1, h2⟩
  · exact .of_left (intBits_le_64 h1 h2)
  · exact .of_right (intBits_le_64 h1 h2)
theorem two_pow_nn (k : Nat) : (0 : Int) ≤ 2 ^ k := by
  rw [two_pow_cast]
  exact Int.natCast_nonneg _

theorem op_add : OpR X (binaryOp .Add) (rI0 fun i j => .int (i + j)) := opI0 fun _ _ _ _ _ _ _ q => add_int q
theorem op_sub : OpR X (binaryOp .Sub) (rI0 fun i j => .int (i - j)) := opI0 fun _ _ _ _ _ _ _ q => sub_int q
theorem op_mul : OpR X (binaryOp .Mult) (rI CMul fun i j => .int (i * j)) := opI fun _ _ _ _ _ _ _ hc q => mul_int q hc.ok
/-- // by a positive divisor -/
theorem op_fdiv : OpR X (binaryOp .FloorDiv) (rI CDiv fun i j => .int (i / j)) := opI fun i j _ _ _ _ _ hc q => by
  have h1 : (0 : Int) < j := hc.1
  have h2 : j < 1073741824 := hc.2
  exact floordiv_int (by omega) (by rw [Int.fdiv_eq_ediv_of_nonneg i (by omega)]; exact q) (.inl (PyProof.noPylong_small (by omega)))
theorem op_fdivN : OpR X (binaryOp .FloorDiv) (rI CDivN fun i j => .int (i.fdiv j)) := opI fun _ _ _ _ _ _ _ hc q => floordiv_int hc.1 q (.inl (PyProof.noPylong_small hc.2))
/-- % by a positive divisor of any size -/
theorem op_mod : OpR X (binaryOp .Mod) (rI (fun _ j => 0 < j) fun i j => .int (i % j)) := opI fun i j _ _ _ _ _ hc q => by
  have h1 : (0 : Int) < j := hc
  exact mod_int' (by omega) (by rw [Int.fmod_eq_emod_of_nonneg i (by omega)]; exact q)
theorem op_modN : OpR X (binaryOp .Mod) (rI (fun _ j => j ≠ 0) fun i j => .int (i.fmod j)) := opI fun _ _ _ _ _ _ _ hc q => mod_int' hc q
theorem op_pow : OpR X (binaryOp .Pow) (rI CPow fun i j => .int (i ^ j.toNat)) := opI fun _ _ _ _ _ _ _ hc q => pow_int_small hc.1 hc.2.1 hc.2.2 q
theorem op_shl : OpR X (binaryOp .LShift) (rI CPow fun i j => .int (i * 2 ^ j.toNat)) := opI fun _ _ _ _ _ _ _ hc q => lshift_int_small hc.1 hc.2.1 hc.2.2 q
theorem op_shr : OpR X (binaryOp .RShift) (rI (fun _ j => 0 ≤ j) fun i j => .int (i / 2 ^ j.toNat)) := opI fun i j _ _ _ _ _ hc q =>
  rshift_int hc (by rw [Int.fdiv_eq_ediv_of_nonneg i (two_pow_nn _)]; exact q)
theorem op_and : OpR X (binaryOp .BitAnd) (rI0 fun i j => .int (Builtin.bitAnd i j)) := opI0 fun _ _ _ _ _ _ _ q => and_int q
theorem op_or : OpR X (binaryOp .BitOr) (rI0 fun i j => .int (Builtin.bitOr i j)) := opI0 fun _ _ _ _ _ _ _ q => or_int q
theorem op_xor : OpR X (binaryOp .BitXor) (rI0 fun i j => .int (Builtin.bitXor i j)) := opI0 fun _ _ _ _ _ _ _ q => xor_int q

theorem iop_add : OpR X (inplaceOp .Add) (rI0 fun i j => .int (i + j)) := opI0 fun _ _ _ _ _ _ _ q => iadd_int q
theorem iop_sub : OpR X (inplaceOp .Sub) (rI0 fun i j => .int (i - j)) := opI0 fun _ _ _ _ _ _ _ q => isub_int q
theorem iop_mul : OpR X (inplaceOp .Mult) (rI CMul fun i j => .int (i * j)) := opI fun _ _ _ _ _ _ _ hc q => imul_int q hc.ok
theorem iop_fdiv : OpR X (inplaceOp .FloorDiv) (rI CDiv fun i j => .int (i / j)) := opI fun i j _ _ _ _ _ hc q => by
  have h1 : (0 : Int) < j := hc.1
  have h2 : j < 1073741824 := hc.2
  exact ifloordiv_int (by omega) (by rw [Int.fdiv_eq_ediv_of_nonneg i (by omega)]; exact q) (.inl (PyProof.noPylong_small (by omega)))
theorem iop_mod : OpR X (inplaceOp .Mod) (rI (fun _ j => 0 < j) fun i j => .int (i % j)) := opI fun i j _ _ _ _ _ hc q => by
  have h1 : (0 : Int) < j := hc
  exact imod_int (by omega) (by rw [Int.fmod_eq_emod_of_nonneg i (by omega)]; exact q)
theorem iop_shl : OpR X (inplaceOp .LShift) (rI CPow fun i j => .int (i * 2 ^ j.toNat)) := opI fun _ _ _ _ _ _ _ hc q => ilshift_int_small hc.1 hc.2.1 hc.2.2 q
theorem iop_shr : OpR X (inplaceOp .RShift) (rI (fun _ j => 0 ≤ j) fun i j => .int (i / 2 ^ j.toNat)) := opI fun i j _ _ _ _ _ hc q =>
  irshift_int hc (by rw [Int.fdiv_eq_ediv_of_nonneg i (two_pow_nn _)]; exact q)
theorem iop_and : OpR X (inplaceOp .BitAnd) (rI0 fun i j => .int (Builtin.bitAnd i j)) := opI0 fun _ _ _ _ _ _ _ q => iand_int q
theorem iop_or : OpR X (inplaceOp .BitOr) (rI0 fun i j => .int (Builtin.bitOr i j)) := opI0 fun _ _ _ _ _ _ _ q => ior_int q
theorem iop_xor : OpR X (inplaceOp .BitXor) (rI0 fun i j => .int (Builtin.bitXor i j)) := opI0 fun _ _ _ _ _ _ _ q => ixor_int q

theorem unI {f : Value → Sem Value} {g : Int → Int}
    (rule : ∀ (i : Int) (t : Tok) (s : Shared) (Q : Value → Shared → Prop) (E : Value → Shared → Prop), Q (.int (g i) s.toks) { s with toks := s.toks + 1 } → wpAny (model X.prog X.w) X.A (f (.int i t)) Q E s) :
    UnR X f (rU fun i => .int (g i)) := by
  intro pins s σ H x v Q I rx h
  obtain ⟨i, rfl, q⟩ := h
  obtain ⟨t, rfl⟩ := rx
  exact rule i t s _ _ ⟨.int (g i), H, I.tok _, ⟨_, rfl⟩, q⟩
theorem un_neg : UnR X (unaryOp .USub) (rU fun i => .int (-i)) := unI fun _ _ _ _ _ q => neg_int q
theorem un_inv : UnR X (unaryOp .Invert) (rU fun i => .int (Builtin.bitNot i)) := unI fun _ _ _ _ _ q => invert_int q

/-! ### bools among ints: n += (a < b) -/
theorem op_add_ib : OpR X (binaryOp .Add) (fun x y H Q => ∃ i k, x = .int i ∧ y = .bl k ∧ Q (.int (i + b2i k)) H) := by
  intro pins s σ H x y v u Q I rx ry h
  obtain ⟨i, k, rfl, rfl, q⟩ := h
  obtain ⟨t, rfl⟩ := rx
  cases ry
  exact add_int_bool ⟨.int (i + b2i k), H, I.tok _, ⟨_, rfl⟩, q⟩
end

/-! ### comparisons -/
/-- the scalars that == tells apart as data does -/
def scal : V → V → Bool
  | .non, .non => true | .non, .int _ => true | .int _, .non => true | .non, .bl _ => true | .bl _, .non => true | .non, .str _ => true | .str _, .non => true
  | .int _, .int _ => true | .bl _, .bl _ => true | .str _, .str _ => true | .byt _, .byt _ => true
  | .int _, .str _ => true | .str _, .int _ => true | .bl _, .str _ => true | .str _, .bl _ => true
  | _, _ => false
def rEq : R2 := fun x y H Q => scal x y = true ∧ Q (.bl (decide (x = y))) H
def rNe : R2 := fun x y H Q => scal x y = true ∧ Q (.bl (!decide (x = y))) H

theorem dec_int {i j : Int} : decide (V.int i = V.int j) = (i == j) := by
  rw [Bool.eq_iff_iff]
  simp
theorem dec_bl {i j : Bool} : decide (V.bl i = V.bl j) = (i == j) := by
  rw [Bool.eq_iff_iff]
  simp
theorem dec_str {i j : Str} : decide (V.str i = V.str j) = (i == j) := by
  rw [Bool.eq_iff_iff]
  simp
theorem dec_byt {i j : Array UInt8} : decide (V.byt i = V.byt j) = (i.toList == j.toList) := by
  rw [Bool.eq_iff_iff]
  cases i
  cases j
  simp

section
variable {X : Cx} {a b c : Expr} {ta tb tc : TE} {pos : Pos}
theorem fin_bl {pins : List (Addr × Obj)} {σ : St} {H : Hp} {s : Shared} {Q : VK} {k k' : Bool} (I : Inv X pins σ H s) (q : Q (.bl k) H) (e : k = k') : EP X pins σ Q (.bool k') s := by
  subst e
  exact ⟨.bl k, H, I, rfl, q⟩
theorem op_eq : OpR X (compareOp .Eq) rEq := by
  intro pins s σ H x y v u Q I rx ry h
  obtain ⟨hs, q⟩ := h
  cases x with
  | non =>
    cases rx
    cases y with
    | non => cases ry; exact PySem.EqNone.eq_none_none (fin_bl I q (by simp))
    | bl j => cases ry; exact PySem.EqNone.eq_none_bool (fin_bl I q (by simp))
    | int j => obtain ⟨t', rfl⟩ := ry; exact PySem.EqNone.eq_none_int (fin_bl I q (by simp))
    | str j => obtain ⟨t', rfl⟩ := ry; exact PySem.EqNone.eq_none_str (fin_bl I q (by simp))
    | _ => exact absurd (show false = true from hs) Bool.false_ne_true
  | bl i =>
    cases rx
    cases y with
    | non => cases ry; exact PySem.EqNone.eq_bool_none (fin_bl I q (by simp))
    | bl j => cases ry; exact eq_bool (fin_bl I q dec_bl)
    | str j => obtain ⟨t', rfl⟩ := ry; exact PySem.EqMixed.eq_bool_str (fin_bl I q (by simp))
    | _ => exact absurd (show false = true from hs) Bool.false_ne_true
  | int i =>
    obtain ⟨t, rfl⟩ := rx
    cases y with
    | non => cases ry; exact PySem.EqNone.eq_int_none (fin_bl I q (by simp))
    | int j => obtain ⟨t', rfl⟩ := ry; exact eq_int (fin_bl I q dec_int)
    | str j => obtain ⟨t', rfl⟩ := ry; exact PySem.EqMixed.eq_int_str (fin_bl I q (by simp))
    | _ => exact absurd (show false = true from hs) Bool.false_ne_true
  | str i =>
    obtain ⟨t, rfl⟩ := rx
    cases y with
    | non => cases ry; exact PySem.EqNone.eq_str_none (fin_bl I q (by simp))
    | bl j => cases ry; exact PySem.EqMixed.eq_str_bool (fin_bl I q (by simp))
    | int j => obtain ⟨t', rfl⟩ := ry; exact PySem.EqMixed.eq_str_int (fin_bl I q (by simp))
    | str j => obtain ⟨t', rfl⟩ := ry; exact eq_str (fin_bl I q dec_str)
    | _ => exact absurd (show false = true from hs) Bool.false_ne_true
  | byt i =>
    obtain ⟨t, rfl⟩ := rx
    cases y with
    | byt j => obtain ⟨t', rfl⟩ := ry; exact PySem.W.eq_bytes (fin_bl I q dec_byt)
    | _ => exact absurd (show false = true from hs) Bool.false_ne_true
  | _ => cases y <;> exact absurd (show false = true from hs) Bool.false_ne_true
theorem op_ne : OpR X (compareOp .NotEq) rNe := by
  intro pins s σ H x y v u Q I rx ry h
  obtain ⟨hs, q⟩ := h
  cases x with
  | non =>
    cases rx
    cases y with
    | non => cases ry; exact PySem.EqNone.ne_none_none (fin_bl I q (by simp))
    | bl j => cases ry; exact PySem.EqNone.ne_none_bool (fin_bl I q (by simp))
    | int j => obtain ⟨t', rfl⟩ := ry; exact PySem.EqNone.ne_none_int (fin_bl I q (by simp))
    | str j => obtain ⟨t', rfl⟩ := ry; exact PySem.EqNone.ne_none_str (fin_bl I q (by simp))
    | _ => exact absurd (show false = true from hs) Bool.false_ne_true
  | bl i =>
    cases rx
    cases y with
    | non => cases ry; exact PySem.EqNone.ne_bool_none (fin_bl I q (by simp))
    | bl j => cases ry; exact ne_bool (fin_bl I q (congrArg not dec_bl))
    | str j => obtain ⟨t', rfl⟩ := ry; exact PySem.EqMixed.ne_bool_str (fin_bl I q (by simp))
    | _ => exact absurd (show false = true from hs) Bool.false_ne_true
  | int i =>
    obtain ⟨t, rfl⟩ := rx
    cases y with
    | non => cases ry; exact PySem.EqNone.ne_int_none (fin_bl I q (by simp))
    | int j => obtain ⟨t', rfl⟩ := ry; exact ne_int (fin_bl I q (congrArg not dec_int))
    | str j => obtain ⟨t', rfl⟩ := ry; exact PySem.EqMixed.ne_int_str (fin_bl I q (by simp))
    | _ => exact absurd (show false = true from hs) Bool.false_ne_true
  | str i =>
    obtain ⟨t, rfl⟩ := rx
    cases y with
    | non => cases ry; exact PySem.EqNone.ne_str_none (fin_bl I q (by simp))
    | bl j => cases ry; exact PySem.EqMixed.ne_str_bool (fin_bl I q (by simp))
    | int j => obtain ⟨t', rfl⟩ := ry; exact PySem.EqMixed.ne_str_int (fin_bl I q (by simp))
    | str j => obtain ⟨t', rfl⟩ := ry; exact ne_str (fin_bl I q (congrArg not dec_str))
    | _ => exact absurd (show false = true from hs) Bool.false_ne_true
  | byt i =>
    obtain ⟨t, rfl⟩ := rx
    cases y with
    | byt j => obtain ⟨t', rfl⟩ := ry; exact PySem.W.ne_bytes (fin_bl I q (congrArg not dec_byt))
    | _ => exact absurd (show false = true from hs) Bool.false_ne_true
  | _ => cases y <;> exact absurd (show false = true from hs) Bool.false_ne_true

theorem op_lt : OpR X (compareOp .Lt) (rI0 fun i j => .bl (decide (i < j))) := opB0 fun _ _ _ _ _ _ _ q => lt_int q
theorem op_le : OpR X (compareOp .LtE) (rI0 fun i j => .bl (decide (i ≤ j))) := opB0 fun _ _ _ _ _ _ _ q => le_int q
theorem op_gt : OpR X (compareOp .Gt) (rI0 fun i j => .bl (decide (j < i))) := opB0 fun _ _ _ _ _ _ _ q => gt_int q
theorem op_ge : OpR X (compareOp .GtE) (rI0 fun i j => .bl (decide (j ≤ i))) := opB0 fun _ _ _ _ _ _ _ q => ge_int q
theorem op_lt_str : OpR X (compareOp .Lt) (fun x y H Q => ∃ i j, x = .str i ∧ y = .str j ∧ Q (.bl (decide (i.cps.toList < j.cps.toList))) H) := by
  intro pins s σ H x y v u Q I rx ry h
  obtain ⟨i, j, rfl, rfl, q⟩ := h
  obtain ⟨t, rfl⟩ := rx
  obtain ⟨t', rfl⟩ := ry
  exact lt_str (fin_bl I q rfl)
/-- the one string within the other -/
theorem op_in_str : OpR X (compareOp .In) (fun x y H Q => ∃ i j, x = .str i ∧ y = .str j ∧ Q (.bl (!(Builtin.Str.occurrences j i 0 j.length 1).isEmpty)) H) := by
  intro pins s σ H x y v u Q I rx ry h
  obtain ⟨i, j, rfl, rfl, q⟩ := h
  obtain ⟨t, rfl⟩ := rx
  obtain ⟨t', rfl⟩ := ry
  exact in_str (fin_bl I q rfl)

/-- is None, is not None: the right side a value none -/
theorem op_isN : OpR X (compareOp .Is) (fun x y H Q => y = .non ∧ Q (.bl (decide (x = .non))) H) := by
  intro pins s σ H x y v u Q I rx ry h
  obtain ⟨rfl, q⟩ := h
  cases ry
  refine is_none_gen (fin_bl I q ?_)
  cases x <;> first
    | (cases rx; rfl)
    | (obtain ⟨t, rfl⟩ := rx; rfl)
theorem op_notN : OpR X (compareOp .IsNot) (fun x y H Q => y = .non ∧ Q (.bl (!decide (x = .non))) H) := by
  intro pins s σ H x y v u Q I rx ry h
  obtain ⟨rfl, q⟩ := h
  cases ry
  refine isnot_none_gen (fin_bl I q ?_)
  cases x <;> first
    | (cases rx; rfl)
    | (obtain ⟨t, rfl⟩ := rx; rfl)

theorem op_notin_str : OpR X (compareOp .NotIn) (fun x y H Q => ∃ i j, x = .str i ∧ y = .str j ∧ Q (.bl (!(!(Builtin.Str.occurrences j i 0 j.length 1).isEmpty))) H) := by
  intro pins s σ H x y v u Q I rx ry h
  obtain ⟨i, j, rfl, rfl, q⟩ := h
  obtain ⟨t, rfl⟩ := rx
  obtain ⟨t', rfl⟩ := ry
  exact notIn_str (fin_bl I q rfl)
/-- is, is not of two objects that are tracked lists or instances -/
def isObj : HO → Bool
  | .lst _ => true
  | .ins _ _ _ => true
  | _ => false
theorem obj_there {pins : List (Addr × Obj)} {s : Shared} {σ : St} {H : Hp} {a : Addr} {o : HO} (I : Inv X pins σ H s) (h : H a = some o) (p : isObj o = true) : ∃ ob, s.heap.get? a = some ob ∧ ob.cls ≠ .type "tuple" := by
  cases o with
  | lst xs =>
    obtain ⟨_, its, n, _, e⟩ : xs.length ≤ sizeLine ∧ ∃ (its : List Value) (n : Nat), Vals xs its ∧ s.heap.get? a = some { cls := .type "list", data := .seq its.toArray n } := I.hok a _ h
    exact ⟨_, e, (by show Value.type "list" ≠ .type "tuple"; decide +kernel)⟩
  | ins C dx fs =>
    have x := I.hok a _ h
    obtain ⟨_, _, _, e, _⟩ := x
    exact ⟨_, e, (by show Value.ref C ≠ .type "tuple"; exact fun z => by cases z)⟩
  | _ => exact absurd (show false = true from p) Bool.false_ne_true
theorem op_is_ref : OpR X (compareOp .Is) (fun x y H Q => ∃ a b oa ob, x = .ref a ∧ y = .ref b ∧ H a = some oa ∧ isObj oa = true ∧ H b = some ob ∧ isObj ob = true ∧ Q (.bl (decide (a = b))) H) := by
  intro pins s σ H x y v u Q I rx ry h
  obtain ⟨a, b, oa, ob, rfl, rfl, ha, pa, hb, pb, q⟩ := h
  cases rx
  cases ry
  obtain ⟨o1, e1, n1⟩ := obj_there I ha pa
  obtain ⟨o2, e2, _⟩ := obj_there I hb pb
  by_cases z : a = b
  · subst z
    exact wpAny_is_ref_self (fin_bl I q (by simp))
  · exact wpAny_is_ref_other z e1 e2 n1 (fin_bl I q (by simp [z]))
theorem op_isnot_ref : OpR X (compareOp .IsNot) (fun x y H Q => ∃ a b oa ob, x = .ref a ∧ y = .ref b ∧ H a = some oa ∧ isObj oa = true ∧ H b = some ob ∧ isObj ob = true ∧ Q (.bl (!decide (a = b))) H) := by
  intro pins s σ H x y v u Q I rx ry h
  obtain ⟨a, b, oa, ob, rfl, rfl, ha, pa, hb, pb, q⟩ := h
  cases rx
  cases ry
  obtain ⟨o1, e1, n1⟩ := obj_there I ha pa
  obtain ⟨o2, e2, _⟩ := obj_there I hb pb
  by_cases z : a = b
  · subst z
    exact wpAny_isNot_ref_self (fin_bl I q (by simp))
  · exact wpAny_isNot_ref_other z e1 e2 n1 (fin_bl I q (by simp [z]))

/-- two rules for one operation: by cases -/
theorem OpR.or {f : Value → Value → Sem Value} {r r' : R2} (h : OpR X f r) (h' : OpR X f r') : OpR X f (fun x y H Q => r x y H Q ∨ r' x y H Q) := by
  intro pins s σ H x y v u Q I rx ry q
  rcases q with q | q
  · exact h pins s σ H x y v u Q I rx ry q
  · exact h' pins s σ H x y v u Q I rx ry q

theorem nomark (b : Expr) {op : CmpOp} (h : op ≠ .In := by decide) (h2 : op ≠ .NotIn := by decide) : behindInMarks op b = false := by
  have e1 : (op == CmpOp.In) = false := by cases op <;> first | rfl | exact absurd rfl h
  have e2 : (op == CmpOp.NotIn) = false := by cases op <;> first | rfl | exact absurd rfl h2
  cases b <;> simp [behindInMarks, e1, e2]
/-- a comparison as a value; hm: nomark b, or (for in, not in) by with_unfolding_all rfl -/
theorem pe_cmpR {op : CmpOp} {r : R2} (ho : OpR X (compareOp op) r) (ha : PE X a ta) (hb : PE X b tb) (hm : behindInMarks op b = false) : PE X (.Compare a [op] [b] pos) (tOp r ta tb) := by
  intro pins s σ H Q I h
  exact wpAny_Compare1 (binT ha hb I h fun v u s2 x y H2 I2 rx ry q => ho pins s2 σ H2 x y v u Q I2 rx ry q) hm
/-- a reading of a value as a test -/
def tTest (t : TE) : TT := fun σ H Q => t σ H fun x H' => ∃ k, x = .bl k ∧ Q k H'
theorem pt_cmpR {op : CmpOp} {r : R2} (ho : OpR X (compareOp op) r) (ha : PE X a ta) (hb : PE X b tb) (hm : behindInMarks op b = false) : PT X (.Compare a [op] [b] pos) (tTest (tOp r ta tb)) := by
  intro pins s σ H Q I h
  refine wpAny_isTrue_Compare1 (thn (ha pins s σ H _ I h) fun v s1 ⟨x, H1, I1, r1, q1⟩ => thn (hb pins s1 σ H1 _ I1 q1) fun u s2 ⟨y, H2, I2, r2, q2⟩ =>
    thn (ho pins s2 σ H2 x y v u _ I2 r1 r2 q2) fun c s3 ⟨z, H3, I3, r3, k, e, q3⟩ => ?_) hm
  subst e
  cases r3
  exact wpAny_truthy_bool ⟨H3, I3, q3⟩
/-- a op1 b op2 c -/
def tChain (r r' : R2) (ta tb tc : TE) : TE := fun σ H Q => ta σ H fun x H1 => tb σ H1 fun y H2 => r x y H2 fun z H3 => ∃ k, z = .bl k ∧
  (if k = true then tc σ H3 fun w' H4 => r' y w' H4 Q else Q (.bl false) H3)
theorem pe_chain {op op' : CmpOp} {r r' : R2} (ho : OpR X (compareOp op) r) (ho' : OpR X (compareOp op') r') (ha : PE X a ta) (hb : PE X b tb) (hc : PE X c tc)
    (hm : lastMarks [op, op'] [b, c] = false := by with_unfolding_all rfl) : PE X (.Compare a [op, op'] [b, c] pos) (tChain r r' ta tb tc) := by
  intro pins s σ H Q I h
  refine Compare_chain (thn (ha pins s σ H _ I h) fun v s1 ⟨x, H1, I1, r1, q1⟩ => chain_link (thn (hb pins s1 σ H1 _ I1 q1) fun u s2 ⟨y, H2, I2, r2, q2⟩ =>
    thn (ho pins s2 σ H2 x y v u _ I2 r1 r2 q2) fun d s3 ⟨z, H3, I3, r3, k, e, q3⟩ => ?_)) hm
  subst e
  cases r3
  refine wpAny_truthy_bool ?_
  cases k with
  | false => exact ite_ff ⟨.bl false, H3, I3, rfl, q3⟩
  | true => exact ite_tt (chain_last (thn (hc pins s3 σ H3 _ I3 q3) fun w' s4 ⟨z', H4, I4, r4, q4⟩ => ho' pins s4 σ H4 y z' u w' Q I4 r2 r4 q4))
theorem pt_chain {op op' : CmpOp} {r r' : R2} (ho : OpR X (compareOp op) r) (ho' : OpR X (compareOp op') r') (ha : PE X a ta) (hb : PE X b tb) (hc : PE X c tc)
    (hm : lastMarks [op, op'] [b, c] = false := by with_unfolding_all rfl) : PT X (.Compare a [op, op'] [b, c] pos) (tTest (tChain r r' ta tb tc)) := by
  intro pins s σ H Q I h
  refine isTrue_chain (thn (ha pins s σ H _ I h) fun v s1 ⟨x, H1, I1, r1, q1⟩ => test_link (thn (hb pins s1 σ H1 _ I1 q1) fun u s2 ⟨y, H2, I2, r2, q2⟩ =>
    thn (ho pins s2 σ H2 x y v u _ I2 r1 r2 q2) fun d s3 ⟨z, H3, I3, r3, k, e, q3⟩ => ?_)) hm
  subst e
  cases r3
  refine wpAny_truthy_bool ?_
  cases k with
  | false =>
    obtain ⟨k', e', q'⟩ := q3
    cases e'
    exact ite_ff ⟨H3, I3, q'⟩
  | true =>
    refine ite_tt (test_last (thn (hc pins s3 σ H3 _ I3 q3) fun w' s4 ⟨z', H4, I4, r4, q4⟩ => thn (ho' pins s4 σ H4 y z' u w' _ I4 r2 r4 q4) fun d' s5 ⟨z2, H5, I5, r5, k2, e2, q5⟩ => ?_))
    subst e2
    cases r5
    exact wpAny_truthy_bool ⟨H5, I5, q5⟩

/-! ### truth -/
/-- a value's truth by the abstract heap -/
def TruV (K : PySem.W.Frag) (x : V) (H : Hp) (k : Bool) : Prop :=
  match x with
  | .non => k = false
  | .bl b => k = b
  | .int i => k = (i != 0)
  | .str y => y.length ≤ sizeLine ∧ k = ((y.length : Int) != 0)
  | .byt y => y.size ≤ sizeLine ∧ k = ((y.size : Int) != 0)
  | .ref p => (∃ xs, SqL K H p xs ∧ k = !xs.isEmpty) ∨ (∃ xs, SqT K H p xs ∧ k = !xs.isEmpty) ∨ ∃ kvs, H p = some (.dK kvs) ∧ k = !kvs.isEmpty
  | _ => False
theorem isEmpty_kv {κ : Type} {kvs : List (κ × V)} {vs : List (κ × Value)} (r : KV kvs vs) : (!vs.isEmpty) = !kvs.isEmpty := by
  cases r <;> rfl
theorem isEmpty_of {xs : List V} {its : List Value} (r : Vals xs its) : (!its.toArray.isEmpty) = !xs.isEmpty := by
  cases r <;> simp
theorem line63 : (sizeLine : Nat) < 2 ^ 63 := by rw [sizeLine_eq]; decide
theorem tru_ok : TruR X (fun x H Q => ∃ k, TruV X.K x H k ∧ Q k H) := by
  intro pins s σ H x v Q I rx h
  obtain ⟨k, e, q⟩ := h
  have hl := line63
  have hs : sizeLine = 16777216 := sizeLine_eq
  cases x with
  | non =>
    cases rx
    have e' : k = false := e
    subst e'
    exact truthy_none ⟨H, I, q⟩
  | bl b =>
    cases rx
    have e' : k = b := e
    subst e'
    exact wpAny_truthy_bool ⟨H, I, q⟩
  | int i =>
    obtain ⟨t, rfl⟩ := rx
    have e' : k = (i != 0) := e
    subst e'
    exact PySem.P.truthy_int ⟨H, I, q⟩
  | str y =>
    obtain ⟨t, rfl⟩ := rx
    obtain ⟨hy, e'⟩ : y.length ≤ sizeLine ∧ k = ((y.length : Int) != 0) := e
    subst e'
    exact PySem.P.truthy_str (by omega) ⟨H, I.tok _, q⟩
  | byt y =>
    obtain ⟨t, rfl⟩ := rx
    obtain ⟨hy, e'⟩ : y.size ≤ sizeLine ∧ k = ((y.size : Int) != 0) := e
    subst e'
    exact PySem.W.truthy_bytes (by omega) ⟨H, I.tok _, q⟩
  | ref p =>
    cases rx
    have e' : (∃ xs, SqL X.K H p xs ∧ k = !xs.isEmpty) ∨ (∃ xs, SqT X.K H p xs ∧ k = !xs.isEmpty) ∨ ∃ kvs, H p = some (.dK kvs) ∧ k = !kvs.isEmpty := e
    rcases e' with ⟨xs, hx, e'⟩ | ⟨xs, hx, e'⟩ | ⟨kvs, hx, e'⟩
    · subst e'
      obtain ⟨its, r, pl, hz⟩ := I.list hx
      have hlen := r.length
      exact wpAny_truthy_list pl.isList (by simp only [List.size_toArray]; omega) ⟨H, I.tok _, by rw [isEmpty_of r]; exact q⟩
    · subst e'
      obtain ⟨its, r, pl, hz⟩ := I.tuple hx
      have hlen := r.length
      exact truthy_tuple pl (by simp only [List.size_toArray]; omega) ⟨H, I.tok _, by rw [isEmpty_of r]; exact q⟩
    · subst e'
      obtain ⟨hz, hS, vs, r, m⟩ : kvs.length ≤ sizeLine ∧ (p == sysModules) = false ∧ ∃ vs, KV kvs vs ∧ s.heap.DictOf (mixKind X.prog X.w) p vs := I.hok p _ hx
      have hlen : kvs.length = vs.length := Paired.length r
      exact wpAny_truthy_dict hS m (by omega) ⟨H, I.tok _, by rw [isEmpty_kv r]; exact q⟩
  | _ => exact (show False from e).elim
/-- any expression whose test is its value's truth (a name, a call, a subscript, a field ..: he by fun _ => rfl) -/
theorem pt_truth (ha : PE X a ta) (he : ∀ whole, isTrue a X.env whole = (do let v ← whole; standAt a.pos; holding [v] (truthy v))) :
    PT X a (fun σ H Q => ta σ H fun x H' => ∃ k, TruV X.K x H' k ∧ Q k H') := by
  intro pins s σ H Q I h
  exact isTrue_plain (thn (ha pins s σ H _ I h) fun v s1 ⟨x, H1, I1, r1, q1⟩ => tru_ok pins s1 σ H1 x v Q I1 r1 q1) (he _)

/-! ### strs and bytes -/
theorem pe_byt {x : List UInt8} {k : Nat} : PE X (.Constant (.bytes x) k pos) (fun _ H Q => Q (.byt x.toArray) H) := fun _ _ _ H _ I h => PySem.W.Constant_bytes ⟨.byt x.toArray, H, I.tok _, ⟨_, rfl⟩, h⟩
theorem op_add_str : OpR X (binaryOp .Add) (fun x y H Q => ∃ i j, x = .str i ∧ y = .str j ∧ i.length + j.length ≤ sizeLine ∧ Q (.str (i ++ j)) H) := by
  intro pins s σ H x y v u Q I rx ry h
  obtain ⟨i, j, rfl, rfl, hz, q⟩ := h
  obtain ⟨t, rfl⟩ := rx
  obtain ⟨t', rfl⟩ := ry
  exact add_str (fun t' tk => ⟨.str (i ++ j), H, I.tok _, ⟨_, rfl⟩, q⟩) hz
theorem iop_add_str : OpR X (inplaceOp .Add) (fun x y H Q => ∃ i j, x = .str i ∧ y = .str j ∧ i.length + j.length ≤ sizeLine ∧ Q (.str (i ++ j)) H) := by
  intro pins s σ H x y v u Q I rx ry h
  obtain ⟨i, j, rfl, rfl, hz, q⟩ := h
  obtain ⟨t, rfl⟩ := rx
  obtain ⟨t', rfl⟩ := ry
  exact iadd_str (fun t' tk => ⟨.str (i ++ j), H, I.tok _, ⟨_, rfl⟩, q⟩) hz
theorem op_add_byt : OpR X (binaryOp .Add) (fun x y H Q => ∃ i j, x = .byt i ∧ y = .byt j ∧ i.size + j.size ≤ 16777216 ∧ Q (.byt (i ++ j)) H) := by
  intro pins s σ H x y v u Q I rx ry h
  obtain ⟨i, j, rfl, rfl, hz, q⟩ := h
  obtain ⟨t, rfl⟩ := rx
  obtain ⟨t', rfl⟩ := ry
  exact PySem.W.KBy.add_bytes hz (fun t' tk => ⟨.byt (i ++ j), H, I.tok _, ⟨_, rfl⟩, q⟩)

def PlainIxT (b : Expr) : Prop := ∀ o i, subscripted b false o i = operate [o, i] (getItem o i)
/-- s[i], 0 ≤ i < len -/
theorem pe_item_str (ha : PE X a ta) (hb : PE X b tb) (hs : PlainIxT b) :
    PE X (.Subscript a b pos) (tOp (fun x y H Q => ∃ z i c, x = .str z ∧ y = .int i ∧ 0 ≤ i ∧ i < 2 ^ 63 ∧ i < z.length ∧ z.cps[i.toNat]? = some c ∧ Q (.str ⟨#[c]⟩) H) ta tb) := by
  intro pins s σ H Q I h
  refine Subscript_ (binT ha hb I h fun v u s2 x y H2 I2 rx ry q => ?_)
  obtain ⟨z, i, c, rfl, rfl, h0, h63, h1, hc, q⟩ := q
  obtain ⟨t, rfl⟩ := rx
  obtain ⟨t', rfl⟩ := ry
  have e : seqIndex? i z.length = some i.toNat := PySem.StrLaws.seqIndex_nonneg h0 h1
  exact tail_any (typeIs_str s2 z t) slot_str_getitem.lookup (getItem_str (c := c) (by
    have e1 : decide (i < -(2 ^ 63 : Int)) = false := decide_eq_false (by omega)
    have e2 : decide (i ≥ 2 ^ 63) = false := decide_eq_false (by omega)
    rw [e1, e2] <;> rfl) (by rw [e]; exact hc) ⟨.str ⟨#[c]⟩, H2, I2.tok _, ⟨_, rfl⟩, q⟩) (hs _ _)
/-- b[i], 0 ≤ i < len -/
theorem pe_item_byt (ha : PE X a ta) (hb : PE X b tb) (hs : PlainIxT b) :
    PE X (.Subscript a b pos) (tOp (fun x y H Q => ∃ (z : List UInt8) (i : Int), x = .byt z.toArray ∧ y = .int i ∧ z.length ≤ sizeLine ∧ 0 ≤ i ∧ i < z.length ∧ Q (.int ((z.getD i.toNat 0).toNat : Nat)) H) ta tb) := by
  intro pins s σ H Q I h
  refine Subscript_ (binT ha hb I h fun v u s2 x y H2 I2 rx ry q => ?_)
  obtain ⟨z, i, rfl, rfl, hz, h0, h1, q⟩ := q
  obtain ⟨t, rfl⟩ := rx
  obtain ⟨t', rfl⟩ := ry
  have hl : sizeLine = 16777216 := sizeLine_eq
  exact tail_any (PySem.W.typeIs_bytes s2 z.toArray t) PySem.W.FB.slot_bytes_getitem.lookup (PySem.W.getItem_bytes (by omega) h0 h1 ⟨.int ((z.getD i.toNat 0).toNat : Nat), H2, I2.tok _, ⟨_, rfl⟩, q⟩) (hs _ _)

/-! ### scalar builtins, by CallR -/
theorem vals1 {x : V} {us : List Value} (r : Vals [x] us) : ∃ u, us = [u] ∧ RelV x u := by
  cases r with
  | cons r1 r2 => cases r2; exact ⟨_, rfl, r1⟩
theorem vals2 {x y : V} {us : List Value} (r : Vals [x, y] us) : ∃ u w', us = [u, w'] ∧ RelV x u ∧ RelV y w' := by
  cases r with
  | cons r1 r2 =>
    cases r2 with
    | cons r3 r4 => cases r4; exact ⟨_, _, rfl, r1, r3⟩
theorem call_abs : CallR X (.builtin "abs") (fun xs H Q => ∃ i, xs = [.int i] ∧ Q (.int (if i < 0 then -i else i)) H) := by
  intro pins s σ H xs us Q I r h
  obtain ⟨i, rfl, q⟩ := h
  obtain ⟨u, rfl, t, rfl⟩ := vals1 r
  exact call_abs_int fun u tk => ⟨.int (if i < 0 then -i else i), H, I.tok _, ⟨_, rfl⟩, q⟩
theorem call_max2 (hc : X.calm = true) : CallR X (.builtin "max") (fun xs H Q => ∃ i j, xs = [.int i, .int j] ∧ Q (.int (if j > i then j else i)) H) := by
  intro pins s σ H xs us Q I r h
  obtain ⟨i, j, rfl, q⟩ := h
  obtain ⟨u, w', rfl, ⟨t, rfl⟩, ⟨t', rfl⟩⟩ := vals2 r
  refine max_two_ints (I.ok.hd hc) fun h' tk k => ⟨_, H, I.kept k, ?_, q⟩
  by_cases hj : j > i
  · rw [if_pos hj, if_pos hj]; exact ⟨_, rfl⟩
  · rw [if_neg hj, if_neg hj]; exact ⟨_, rfl⟩
theorem call_min2 (hc : X.calm = true) : CallR X (.builtin "min") (fun xs H Q => ∃ i j, xs = [.int i, .int j] ∧ Q (.int (if j < i then j else i)) H) := by
  intro pins s σ H xs us Q I r h
  obtain ⟨i, j, rfl, q⟩ := h
  obtain ⟨u, w', rfl, ⟨t, rfl⟩, ⟨t', rfl⟩⟩ := vals2 r
  refine min_two_ints (I.ok.hd hc) fun h' tk k => ⟨_, H, I.kept k, ?_, q⟩
  by_cases hj : j < i
  · rw [if_pos hj, if_pos hj]; exact ⟨_, rfl⟩
  · rw [if_neg hj, if_neg hj]; exact ⟨_, rfl⟩
theorem call_int1 : CallR X (.type "int") (fun xs H Q => (∃ i, xs = [.int i] ∧ Q (.int i) H) ∨ ∃ k, xs = [.bl k] ∧ Q (.int (if k then 1 else 0)) H) := by
  intro pins s σ H xs us Q I r h
  rcases h with ⟨i, rfl, q⟩ | ⟨k, rfl, q⟩
  · obtain ⟨u, rfl, t, rfl⟩ := vals1 r
    exact call_int_int ⟨.int i, H, I, ⟨_, rfl⟩, q⟩
  · obtain ⟨u, rfl, r1⟩ := vals1 r
    cases r1
    exact call_int_bool ⟨.int (if k then 1 else 0), H, I.tok _, ⟨_, rfl⟩, q⟩
theorem call_bool1 : CallR X (.type "bool") (fun xs H Q => (∃ i, xs = [.int i] ∧ Q (.bl (i != 0)) H) ∨ ∃ k, xs = [.bl k] ∧ Q (.bl k) H) := by
  intro pins s σ H xs us Q I r h
  rcases h with ⟨i, rfl, q⟩ | ⟨k, rfl, q⟩
  · obtain ⟨u, rfl, t, rfl⟩ := vals1 r
    exact call_bool_int ⟨.bl (i != 0), H, I, rfl, q⟩
  · obtain ⟨u, rfl, r1⟩ := vals1 r
    cases r1
    exact call_bool_bool ⟨.bl k, H, I, rfl, q⟩
theorem call_str_int : CallR X (.type "str") (fun xs H Q => ∃ i, xs = [.int i] ∧ i.natAbs.log2 < 1920 ∧ Q (.str (toString i)) H) := by
  intro pins s σ H xs us Q I r h
  obtain ⟨i, rfl, hz, q⟩ := h
  obtain ⟨u, rfl, t, rfl⟩ := vals1 r
  exact PySem.P.str_of_int hz ⟨.str _, H, I.tok _, ⟨_, rfl⟩, q⟩
theorem call_ord : CallR X (.builtin "ord") (fun xs H Q => ∃ x, xs = [.str x] ∧ x.length = 1 ∧ Q (.int (x.cps.getD 0 0 : Nat)) H) := by
  intro pins s σ H xs us Q I r h
  obtain ⟨x, rfl, hz, q⟩ := h
  obtain ⟨u, rfl, t, rfl⟩ := vals1 r
  exact ord_of_one hz ⟨.int _, H, I.tok _, ⟨_, rfl⟩, q⟩
theorem call_chr : CallR X (.builtin "chr") (fun xs H Q => ∃ i, xs = [.int i] ∧ 0 ≤ i ∧ i ≤ 1114111 ∧ Q (.str ⟨#[i.toNat]⟩) H) := by
  intro pins s σ H xs us Q I r h
  obtain ⟨i, rfl, h0, h1, q⟩ := h
  obtain ⟨u, rfl, t, rfl⟩ := vals1 r
  exact chr_of_range h0 h1 ⟨.str _, H, I.tok _, ⟨_, rfl⟩, q⟩
/-- len of a str, a bytes, a list, a tuple -/
def LenV (K : PySem.W.Frag) (x : V) (H : Hp) (n : Nat) : Prop :=
  match x with
  | .str y => y.length ≤ sizeLine ∧ n = y.length
  | .byt y => y.size ≤ sizeLine ∧ n = y.size
  | .ref p => (∃ xs, SqL K H p xs ∧ n = xs.length) ∨ ∃ xs, SqT K H p xs ∧ n = xs.length
  | _ => False
theorem call_len : CallR X (.builtin "len") (fun xs H Q => ∃ x n, xs = [x] ∧ LenV X.K x H n ∧ Q (.int n) H) := by
  intro pins s σ H xs us Q I r h
  obtain ⟨x, n, rfl, e, q⟩ := h
  obtain ⟨u, rfl, rx⟩ := vals1 r
  have hl := line63
  have hs : sizeLine = 16777216 := sizeLine_eq
  cases x with
  | str y =>
    obtain ⟨t, rfl⟩ := rx
    obtain ⟨hy, e'⟩ : y.length ≤ sizeLine ∧ n = y.length := e
    subst e'
    exact len_str (by omega) ⟨.int _, H, I.tok _, ⟨_, rfl⟩, q⟩
  | byt y =>
    obtain ⟨t, rfl⟩ := rx
    obtain ⟨hy, e'⟩ : y.size ≤ sizeLine ∧ n = y.size := e
    subst e'
    exact PySem.W.len_bytes (by omega) ⟨.int _, H, I.tok _, ⟨_, rfl⟩, q⟩
  | ref p =>
    cases rx
    have e' : (∃ xs, SqL X.K H p xs ∧ n = xs.length) ∨ ∃ xs, SqT X.K H p xs ∧ n = xs.length := e
    rcases e' with ⟨xs, hx, e'⟩ | ⟨xs, hx, e'⟩
    · subst e'
      obtain ⟨its, r', pl, hz⟩ := I.list hx
      have hlen := r'.length
      exact Calls.call_len_list pl.isList (by simp only [List.size_toArray]; omega) ⟨.int xs.length, H, I.tok _, ⟨_, by simp only [List.size_toArray]; rw [hlen]⟩, q⟩
    · subst e'
      obtain ⟨its, r', pl, hz⟩ := I.tuple hx
      have hlen := r'.length
      exact len_tuple pl (by simp only [List.size_toArray]; omega) ⟨.int xs.length, H, I.tok _, ⟨_, by simp only [List.size_toArray]; rw [hlen]⟩, q⟩
  | _ => exact (show False from e).elim
/-- divmod: a new tuple -/
theorem call_divmod : CallR X (.builtin "divmod") (fun xs H Q => ∃ i j, xs = [.int i, .int j] ∧ CDiv i j ∧ ∀ p, H p = none → Q (.ref p) (upd H p (.tup [.int (i / j), .int (i % j)]))) := by
  intro pins s σ H xs us Q I r h
  obtain ⟨i, j, rfl, ⟨h1, h2⟩, q⟩ := h
  obtain ⟨u, w', rfl, ⟨t, rfl⟩, ⟨t', rfl⟩⟩ := vals2 r
  refine divmod_int (by omega) ?_ (.inl (PyProof.noPylong_small (by omega)))
  rw [Int.fdiv_eq_ediv_of_nonneg i (by omega), Int.fmod_eq_emod_of_nonneg i (by omega)]
  have hn : H s.heap.objs.size = none := I.hok.fresh (Nat.le_refl _)
  refine ⟨.ref s.heap.objs.size, _, ?_, rfl, q _ hn⟩
  refine I.laid (fun b o e => Heap.get?_push_of_some _ e) (Nat.le_refl _) ⟨by simp only [List.length_cons, List.length_nil]; rw [sizeLine_eq]; decide, [.int (i / j) s.toks, .int (i % j) (s.toks + 1)], .cons ⟨_, rfl⟩ (.cons ⟨_, rfl⟩ .nil), ?_⟩
  exact ⟨_, Heap.get?_push_size s.heap rfl, rfl, 0, rfl⟩
end
end L2

namespace L2
open PySem PySem.Spec PyProof.Rows

/-! ### an instance, its attributes a map -/
structure ObjM (h : Heap) (x dx C : Addr) (mA : Str → Option Value) : Prop where
  obj : h.get? x = some (PySem.W.instObj C dx)
  ns : h.Ns1 dx mA
  ne : dx ≠ x

theorem lookIn_ns {h : Heap} {dx : Addr} {mA : Str → Option Value} (n : h.Ns1 dx mA) : ∃ od, h.get? dx = some od ∧ ∀ name, PySem.W.lookIn name od = some (mA name) := by
  obtain ⟨o, es, ep, ho, hd, hk, _, hm⟩ := n
  refine ⟨o, ho, fun name => ?_⟩
  have e := hm name
  unfold nsFind findBy at e
  rw [← Array.find?_toList] at e
  unfold PySem.W.lookIn
  rw [hd]
  dsimp only
  split
  · rename_i y q
    rw [q] at e
    exact congrArg some e
  · rename_i q
    rw [q] at e
    have a : es.toList.any (·.refKey) = false := by
      rw [List.any_eq_false]
      intro y hy
      obtain ⟨z, t, hkey⟩ := hk y (Array.mem_toList_iff.mp hy)
      simp [DictEntry.refKey, hkey]
    have a' : ¬ es.toList.any (·.refKey) = true := by rw [a]; exact Bool.false_ne_true
    rw [if_neg a']
    exact congrArg some e

theorem ObjM.look {h : Heap} {x dx C : Addr} {mA : Str → Option Value} (I : ObjM h x dx C mA) : ∃ od, PySem.W.InstAt h x (PySem.W.instObj C dx) C (some od) ∧ ∀ name, PySem.W.lookIn name od = some (mA name) :=
  let ⟨od, ho, hl⟩ := lookIn_ns I.ns
  ⟨od, ⟨I.obj, rfl, rfl, ho⟩, hl⟩

section
variable {prog : Program} {w : World} {A : Around} {E : Value → Shared → Prop} {s : Shared} {K : PySem.W.Frag} {x dx C f : Addr} {mA : Str → Option Value} {name : Str} {v : Value}

theorem get_map {expr : Bool} {Q : Value → Shared → Prop} (X : K.In s.heap) (I : ObjM s.heap x dx C mA) (hg : PySem.W.plainGet K C name = true) (hh : PySem.W.hasDictIn K C = true)
    (ha : PySem.W.findIn K (.ref C) name = some none) (hv : mA name = some v) (hv' : PySem.W.handedIn v = true) (h : Q v { s with toks := s.toks + 1 }) :
    wpAny (model prog w) A (getAttr (.ref x) name expr) Q E s := by
  obtain ⟨od, J, hl⟩ := I.look
  exact PySem.W.get_value X J (PySem.W.plainGet_of hg).1 (PySem.W.findObj_own hh ha rfl (by rw [hl, hv])) hv' h

theorem get_const {expr : Bool} {a : Value} {Q : Value → Shared → Prop} (X : K.In s.heap) (I : ObjM s.heap x dx C mA) (hg : PySem.W.plainGet K C name = true) (hh : PySem.W.hasDictIn K C = true)
    (ha : PySem.W.findIn K (.ref C) name = some (some a)) (hn : PySem.W.specialIn K a "__get__" = some none) (hc : PySem.W.copiedNames.contains name = false) (hv : mA name = none) (hv' : PySem.W.handedIn a = true)
    (h : Q a { s with toks := s.toks + 1 }) : wpAny (model prog w) A (getAttr (.ref x) name expr) Q E s := by
  obtain ⟨od, J, hl⟩ := I.look
  exact PySem.W.get_value X J (PySem.W.plainGet_of hg).1 (PySem.W.findObj_cls hh ha hn hv' hc (by rw [hl, hv])) hv' h

theorem get_meth {pl : Sem Bool} {Q : Value × List Value → Shared → Prop} (X : K.In s.heap) (I : ObjM s.heap x dx C mA) (hg : PySem.W.plainGet K C name = true)
    (hf : PySem.W.findIn K (.ref C) name = some (some (.ref f))) (ht : PySem.W.isFn K (.ref f) = true) (hv : mA name = none) (h : Q (.ref f, [.ref x]) s) :
    wpAny (model prog w) A (getMethod (.ref x) name pl) Q E s := by
  obtain ⟨od, J, hl⟩ := I.look
  exact PySem.W.method_fn X J (PySem.W.plainGet_of hg).1 (PySem.W.plainGet_of hg).2 hf (beq_iff_eq.mp ht) (by show (PySem.W.lookIn name od).map (·.isSome) = some false; rw [hl, hv]; rfl) h

theorem set_map {ns : List Str} {Q : Unit → Shared → Prop} (X : K.In s.heap) (I : ObjM s.heap x dx C mA)
    (hs : PySem.W.findIn K (.ref C) "__setattr__" = some (some (.builtin "object.__setattr__"))) (hp : PySem.W.plainOver K C = true) (ht : PySem.W.takerIn K C name = some none) (hh : PySem.W.hasDictIn K C = true)
    (hw : PySem.Within mA ns) (hsz : ns.length ≤ sizeLine)
    (h : ∀ h', ObjM h' x dx C (fun y => if y = name then some v else mA y) → Heap.SameBut dx s.heap h' → Q () { s with heap := h', toks := s.toks + 2 }) :
    wpAny (model prog w) A (setAttr (.ref x) name v) Q E s := by
  obtain ⟨od, J, hl⟩ := I.look
  refine PySem.W.set_plain X J hs (PySem.W.osa_open (s := { s with toks := s.toks + 1 }) (r := none) X J hp ht fun b => ?_)
  obtain ⟨cd, hc, hd'⟩ := PySem.W.any_some hh
  have hx : s.heap.get? x = some ⟨.ref C, some dx, .plain, #[]⟩ := I.obj
  refine wpAny_bind (wpAny_pure (wpAny_bind (wpAny_bind (wpAny_loadPart hx (wpAny_bind (PySem.W.Looks.here (s := { s with toks := s.toks + 1 }) (PySem.W.looks_clsIn X hc) ?_))))))
  rw [hd']
  refine wpAny_pure (a := some dx) (wpAny_bind (wpAny_pure (wpAny_bind ?_)))
  refine wpAny_nsSet1 (s := { s with toks := s.toks + 1 }) I.ns fun h' hn2 hs2 => ?_
  obtain ⟨oD, esD, epD, hoD, hdD, hcD⟩ := hn2.count (PySem.Within.cons name v hw)
  refine wpAny_bind (wpAny_lookBehind hoD (by rw [hdD]; exact pastItsLine_dict (Nat.le_trans hcD (by rw [List.length_cons]; omega))) ?_)
  exact wpAny_pure (h _ ⟨(hs2.2 _ (Ne.symm I.ne)).trans I.obj, hn2, I.ne⟩ hs2)

/-- C(..): the dict at the heap's end, the instance behind it; then its __init__ -/
theorem make_map {R : Result → Shared → Prop} {vs : List Value} {kw : List (Str × Value)} (X : K.In s.heap) (hm : PySem.W.makesIn K C = true)
    (hi : PySem.W.findIn K (.ref C) "__init__" = some (some (.ref f))) (hf : PySem.W.typeIn K (.ref f) = some (.type "function"))
    (h : codeAny (model prog w) (A.under (.builtin "type.__call__" ⟨.ref C :: vs, kw⟩)) (.call (.ref f) ⟨.ref (s.heap.objs.size + 1) :: vs, kw⟩) (PySem.W.InitBack (s.heap.objs.size + 1) R)
      { s with heap := (s.heap.push PySem.W.emptyDict).push (PySem.W.instObj C s.heap.objs.size) }) :
    codeAny (model prog w) A (.call (.ref C) ⟨vs, kw⟩) R s := by
  obtain ⟨hh, g, d, t, os⟩ := s
  exact PySem.W.make_core (PySem.W.makes_of X hm) (PySem.W.looks_findIn X hi) (fun self => PySem.W.bind_fn X self hf) (.inl rfl) h
/-- C() where there is no __init__ but object's -/
theorem make_map0 {R : Result → Shared → Prop} (X : K.In s.heap) (hm : PySem.W.makesIn K C = true)
    (hi : PySem.W.findIn K (.ref C) "__init__" = some (some (.builtin "object.__init__")))
    (hb : ∀ self, PySem.W.Looks (model prog w) s.heap (bindSpecial (.builtin "object.__init__") self) (.builtin "object.__init__", [self]))
    (h : codeAny (model prog w) (A.under (.builtin "type.__call__" ⟨[.ref C], []⟩)) (.call (.builtin "object.__init__") ⟨[.ref (s.heap.objs.size + 1)], []⟩) (PySem.W.InitBack (s.heap.objs.size + 1) R)
      { s with heap := (s.heap.push PySem.W.emptyDict).push (PySem.W.instObj C s.heap.objs.size) }) :
    codeAny (model prog w) A (.call (.ref C) ⟨[], []⟩) R s := by
  obtain ⟨hh, g, d, t, os⟩ := s
  exact PySem.W.make_core (PySem.W.makes_of X hm) (PySem.W.looks_findIn X hi) hb (.inr ⟨rfl, rfl⟩) h
end

/-! ### the attributes as a list of pairs -/
def putF (f : Str) (v : V) : List (Str × V) → List (Str × V)
  | [] => [(f, v)]
  | (g, x) :: r => if g = f then (g, v) :: r else (g, x) :: putF f v r
theorem lookup_putF (f g : Str) (v : V) : ∀ fs : List (Str × V), (putF f v fs).lookup g = if g = f then some v else fs.lookup g
  | [] => by
    show List.lookup g [(f, v)] = _
    by_cases h : g = f
    · have hb : (g == f) = true := beq_iff_eq.mpr h
      simp only [List.lookup, hb, if_pos h]
    · have hb : (g == f) = false := beq_eq_false_iff_ne.mpr h
      simp only [List.lookup, hb, if_neg h]
  | (k, x) :: r => by
    have ih := lookup_putF f g v r
    rw [show putF f v ((k, x) :: r) = (if k = f then (k, v) :: r else (k, x) :: putF f v r) from rfl]
    by_cases hk : k = f
    · rw [if_pos hk]
      by_cases h : g = k
      · have hb : (g == k) = true := beq_iff_eq.mpr h
        simp only [List.lookup, hb, if_pos (h.trans hk)]
      · have hb : (g == k) = false := beq_eq_false_iff_ne.mpr h
        simp only [List.lookup, hb, if_neg (fun e : g = f => h (e.trans hk.symm))]
    · rw [if_neg hk]
      by_cases h : g = k
      · have hb : (g == k) = true := beq_iff_eq.mpr h
        simp only [List.lookup, hb, if_neg (fun e : g = f => hk (h.symm.trans e))]
      · have hb : (g == k) = false := beq_eq_false_iff_ne.mpr h
        simp only [List.lookup, hb]
        exact ih
theorem keys_putF (f : Str) (v : V) : ∀ fs : List (Str × V), f ∈ (putF f v fs).map (·.1) ∧ ∀ g, g ∈ fs.map (·.1) → g ∈ (putF f v fs).map (·.1)
  | [] => ⟨by simp [putF], fun g h => by simp at h⟩
  | (k, x) :: r => by
    obtain ⟨i1, i2⟩ := keys_putF f v r
    rw [show putF f v ((k, x) :: r) = (if k = f then (k, v) :: r else (k, x) :: putF f v r) from rfl]
    by_cases hk : k = f
    · rw [if_pos hk]
      subst hk
      exact ⟨by simp, fun g h => by simpa using h⟩
    · rw [if_neg hk]
      refine ⟨?_, fun g h => ?_⟩
      · rw [List.map_cons]
        exact List.mem_cons_of_mem _ i1
      · rw [List.map_cons] at h ⊢
        rcases List.mem_cons.mp h with e | e
        · exact List.mem_cons.mpr (.inl e)
        · exact List.mem_cons_of_mem _ (i2 g e)
theorem length_putF (f : Str) (v : V) : ∀ fs : List (Str × V), (putF f v fs).length ≤ fs.length + 1
  | [] => by simp [putF]
  | (k, x) :: r => by
    have ih := length_putF f v r
    rw [show putF f v ((k, x) :: r) = (if k = f then (k, v) :: r else (k, x) :: putF f v r) from rfl]
    by_cases hk : k = f
    · rw [if_pos hk, List.length_cons, List.length_cons]; omega
    · rw [if_neg hk, List.length_cons, List.length_cons]; omega

theorem RelO.some_of {v : V} {o : Option Value} (r : RelO (some v) o) : ∃ u, o = some u ∧ RelV v u := by
  cases o with
  | none => exact (show False from r).elim
  | some u => exact ⟨u, rfl, r⟩
theorem RelO.none_of {o : Option Value} (r : RelO none o) : o = none := by
  cases o with
  | none => rfl
  | some u => exact (show False from r).elim
theorem handed_of {v : V} {u : Value} (r : RelV v u) : PySem.W.handedIn u = true := by
  cases v with
  | non => cases (show u = Value.none from r); rfl
  | bl b => cases (show u = Value.bool b from r); rfl
  | int i => obtain ⟨t, e⟩ := (show ∃ t, u = Value.int i t from r); cases e; rfl
  | str x => obtain ⟨t, e⟩ := (show ∃ t, u = Value.str x t from r); cases e; rfl
  | byt b => obtain ⟨t, e⟩ := (show ∃ t, u = Value.bytes b t from r); cases e; rfl
  | flt b => obtain ⟨t, e⟩ := (show ∃ t, u = Value.float b t from r); cases e; rfl
  | ref a => cases (show u = Value.ref a from r); rfl
  | ty n => cases (show u = Value.type n from r); rfl

section
variable {P : Program} {w : World} {H H' : Hp} {h h' : Heap} {a C dx : Addr} {fs fs' : List (Str × V)}
theorem ins_get (hok : HOk P w H h) (e : H a = some (.ins C dx fs)) : ∃ mA, ObjM h a dx C mA ∧ (∀ f, RelO (fs.lookup f) (mA f)) ∧ PySem.Within mA (fs.map (·.1)) ∧ fs.length ≤ 1000 ∧ H dx = some (.own a) := by
  obtain ⟨d, z, ne, ob, mA, n, r, q⟩ := (show ObjOk P w H h a (.ins C dx fs) from hok a _ e)
  exact ⟨mA, ⟨ob, n, ne⟩, r, q, z, d⟩
end

/-! ### what of the text a class must have -/
structure Cls (K : PySem.W.Frag) (C : Addr) : Prop where
  pg : PySem.W.plainGet K C Str.empty = true
  hd : PySem.W.hasDictIn K C = true
  po : PySem.W.plainOver K C = true
  sa : PySem.W.findIn K (.ref C) "__setattr__" = some (some (.builtin "object.__setattr__"))
theorem Cls.get {K : PySem.W.Frag} {C : Addr} (c : Cls K C) (f : Str) : PySem.W.plainGet K C f = true := c.pg
/-- no class of it has the name -/
def NoAttr (K : PySem.W.Frag) (C : Addr) (f : Str) : Prop := PySem.W.findIn K (.ref C) f = some none
theorem NoAttr.taker {K : PySem.W.Frag} {C : Addr} {f : Str} (n : NoAttr K C f) : PySem.W.takerIn K C f = some none := by
  unfold PySem.W.takerIn
  rw [show PySem.W.findIn K (.ref C) f = some none from n]
  rfl
/-- a constant of the class -/
structure Con (K : PySem.W.Frag) (C : Addr) (f : Str) (v : V) (u : Value) : Prop where
  at_ : PySem.W.findIn K (.ref C) f = some (some u)
  rel : RelV v u
  get : PySem.W.specialIn K u "__get__" = some none
  cp : PySem.W.copiedNames.contains f = false
/-- a method: a plain def of the class or of one above it -/
structure Meth (K : PySem.W.Frag) (C : Addr) (m : Str) (f : Addr) : Prop where
  at_ : PySem.W.findIn K (.ref C) m = some (some (.ref f))
  fn : PySem.W.isFn K (.ref f) = true
  kp : PySem.W.keepIn K (.ref f) = true

section
variable {X : Cx} {pins : List (Addr × Obj)} {σ : St} {H : Hp} {s : Shared} {a C dx : Addr} {fs : List (Str × V)} {f : Str} {v : V} {A : Around} {E : Value → Shared → Prop}

theorem getattr_ok {b : Bool} {Q : Value → Shared → Prop} (I : Inv X pins σ H s) (e : H a = some (.ins C dx fs)) (c : Cls X.K C) (n : NoAttr X.K C f) (l : fs.lookup f = some v)
    (h : ∀ u s', Inv X pins σ H s' → RelV v u → Q u s') : wpAny (model X.prog X.w) A (getAttr (.ref a) f b) Q E s := by
  obtain ⟨mA, O, r, _, _, _⟩ := ins_get I.hok e
  obtain ⟨u, hu, ru⟩ := RelO.some_of (v := v) (o := mA f) (by rw [← l]; exact r f)
  exact get_map I.kIn O (c.get f) c.hd n hu (handed_of ru) (h u _ (I.tok _) ru)

theorem getcon_ok {b : Bool} {u : Value} {Q : Value → Shared → Prop} (I : Inv X pins σ H s) (e : H a = some (.ins C dx fs)) (c : Cls X.K C) (k : Con X.K C f v u) (l : fs.lookup f = none)
    (h : ∀ s', Inv X pins σ H s' → Q u s') : wpAny (model X.prog X.w) A (getAttr (.ref a) f b) Q E s := by
  obtain ⟨mA, O, r, _, _, _⟩ := ins_get I.hok e
  have hn : mA f = none := RelO.none_of (by rw [← l]; exact r f)
  exact get_const I.kIn O (c.get f) c.hd k.at_ k.get k.cp hn (handed_of k.rel) (h _ (I.tok _))

theorem getmeth_ok {m : Str} {g : Addr} {pl : Sem Bool} {Q : Value × List Value → Shared → Prop} (I : Inv X pins σ H s) (e : H a = some (.ins C dx fs)) (c : Cls X.K C) (k : Meth X.K C m g) (l : fs.lookup m = none)
    (h : Q (.ref g, [.ref a]) s) : wpAny (model X.prog X.w) A (getMethod (.ref a) m pl) Q E s := by
  obtain ⟨mA, O, r, _, _, _⟩ := ins_get I.hok e
  have hn : mA m = none := RelO.none_of (by rw [← l]; exact r m)
  exact get_meth I.kIn O (c.get m) k.at_ k.fn hn h

theorem setattr_ok {y : V} {u : Value} {Q : Unit → Shared → Prop} (I : Inv X pins σ H s) (e : H a = some (.ins C dx fs)) (c : Cls X.K C) (n : NoAttr X.K C f) (hl : fs.length < 1000) (ry : RelV y u)
    (h : ∀ s', Inv X pins σ (upd H a (.ins C dx (putF f y fs))) s' → Q () s') : wpAny (model X.prog X.w) A (setAttr (.ref a) f u) Q E s := by
  obtain ⟨mA, O, r, wi, _, ho⟩ := ins_get I.hok e
  have hz : (fs.map (·.1)).length ≤ sizeLine := by rw [List.length_map, sizeLine_eq]; omega
  refine set_map I.kIn O c.sa c.po n.taker c.hd wi hz fun h' O' sb => h _ ?_
  have hd : ∃ o, h'.get? dx = some o := let ⟨o, _, _, e', _⟩ := O'.ns; ⟨o, e'⟩
  refine I.write (x := a) (e := dx) (by rw [e]; exact True.intro) (.inr ho) (fun b q hb z => (sb.2 b hb).trans z) hd ?_
  refine ⟨by rw [upd_ne O.ne]; exact ho, ?_, O.ne, O'.obj, _, O'.ns, fun g => ?_, fun g hg => ?_⟩
  · have := length_putF f y fs; omega
  · show RelO ((putF f y fs).lookup g) (if g = f then some u else mA g)
    rw [lookup_putF]
    by_cases q : g = f
    · rw [if_pos q, if_pos q]; exact ry
    · rw [if_neg q, if_neg q]; exact r g
  · by_cases q : g = f
    · rw [q]; exact (keys_putF f y fs).1
    · refine (keys_putF f y fs).2 g (wi g fun z => hg ?_)
      show (if g = f then some u else mA g) = none
      rw [if_neg q]; exact z

/-- a new instance, tracked, without attributes -/
theorem Inv.made (I : Inv X pins σ H s) : Inv X pins σ (upd (upd H s.heap.objs.size (.own (s.heap.objs.size + 1))) (s.heap.objs.size + 1) (.ins C s.heap.objs.size []))
    { s with heap := (s.heap.push PySem.W.emptyDict).push (PySem.W.instObj C s.heap.objs.size) } := by
  have e1 : (s.heap.push PySem.W.emptyDict).get? s.heap.objs.size = some PySem.W.emptyDict := Heap.get?_push_size s.heap rfl
  have e2 : ((s.heap.push PySem.W.emptyDict).push (PySem.W.instObj C s.heap.objs.size)).get? (s.heap.objs.size + 1) = some (PySem.W.instObj C s.heap.objs.size) := by
    have := Heap.get?_push_size (s.heap.push PySem.W.emptyDict) (o := PySem.W.instObj C s.heap.objs.size) rfl
    rwa [Heap.size_push] at this
  have e3 : (s.heap.push PySem.W.emptyDict).Ns s.heap.objs.size (fun _ => none) := ⟨PySem.W.emptyDict, #[], _, e1, rfl, (fun e he => absurd he (by simp)), fun _ => rfl⟩
  have I1 := I.laid (a := s.heap.objs.size) (o := .own (s.heap.objs.size + 1)) (h' := s.heap.push PySem.W.emptyDict) (t' := s.toks) (fun b u q => Heap.get?_push_of_some _ q) (Nat.le_refl _) ⟨_, e1⟩
  refine I1.laid (a := s.heap.objs.size + 1) (o := .ins C s.heap.objs.size []) (t' := s.toks) (fun b u q => Heap.get?_push_of_some _ q) (Nat.le_of_eq (Heap.size_push _ _)) ?_
  have ne : s.heap.objs.size ≠ s.heap.objs.size + 1 := Nat.ne_of_lt (Nat.lt_succ_self _)
  refine ⟨by rw [upd_ne ne, upd_same], Nat.zero_le _, ne, e2, fun _ => none, (Heap.Ns1.of_empty e3).at fun o q => Heap.get?_push_of_some _ q, fun _ => True.intro, fun y hy => absurd rfl hy⟩

/-- e.f where nothing but the object is asked: through attributeBase (super) and the last hold -/
theorem attr_of {prog : Program} {w : World} {env : Env} {e : Expr} {f : Str} {pos : Pos} {s : Shared} {Q : Value → Shared → Prop} (hb : attributeBase e f env (eval e env) = eval e env)
    (h : wpAny (model prog w) A (eval e env) (fun o s₁ => wpAny (model prog w) A (getAttr o f true) Q E s₁) E s) : wpAny (model prog w) A (eval (.Attribute e f pos) env) Q E s :=
  Attribute_any_ h (by rw [arm_eval_Attribute, hb])
end

/-! ### readings and rules -/
/-- e.f, an attribute of the instance -/
def tFld (K : PySem.W.Frag) (ta : TE) (f : Str) : TE := fun σ H Q => ta σ H fun x H1 => ∃ a C dx fs v, x = .ref a ∧ H1 a = some (.ins C dx fs) ∧ Cls K C ∧ NoAttr K C f ∧ fs.lookup f = some v ∧ Q v H1
/-- e.f, a constant of the class -/
def tCon (K : PySem.W.Frag) (ta : TE) (f : Str) : TE := fun σ H Q => ta σ H fun x H1 => ∃ a C dx fs v u, x = .ref a ∧ H1 a = some (.ins C dx fs) ∧ Cls K C ∧ Con K C f v u ∧ fs.lookup f = none ∧ Q v H1
/-- e.f = value -/
def sFld (K : PySem.W.Frag) (ta tv : TE) (f : Str) : TS := fun D σ H => tv σ H fun y H1 => ta σ H1 fun x H2 => ∃ a C dx fs, x = .ref a ∧ H2 a = some (.ins C dx fs) ∧ Cls K C ∧ NoAttr K C f ∧ fs.length < 1000 ∧
  D.nx σ (upd H2 a (.ins C dx (putF f y fs)))
/-- an augmented operator on two values -/
def InOp (X : Cx) (op : Operator) (rd : V → V → Hp → VK → Prop) : Prop :=
  ∀ (pins : List (Addr × Obj)) (s : Shared) (σ : St) (H : Hp) (x y : V) (u v : Value) (Q : VK), Inv X pins σ H s → RelV x u → RelV y v → rd x y H Q → wpAny (model X.prog X.w) X.A (inplaceOp op u v) (EP X pins σ Q) X.xe s
/-- e.f op= value -/
def sFldAug (K : PySem.W.Frag) (ta tv : TE) (rd : V → V → Hp → VK → Prop) (f : Str) : TS := fun D σ H => ta σ H fun x H1 => ∃ a C dx fs v, x = .ref a ∧ H1 a = some (.ins C dx fs) ∧ Cls K C ∧ NoAttr K C f ∧ fs.lookup f = some v ∧
  tv σ H1 fun y H2 => rd v y H2 fun z H3 => ∃ dx' fs', H3 a = some (.ins C dx' fs') ∧ fs'.length < 1000 ∧ D.nx σ (upd H3 a (.ins C dx' (putF f z fs')))

section
variable {X : Cx} {o e value : Expr} {f : Str} {pos pos' tpos : Pos} {ta tv : TE}
theorem pe_fld (he : PE X e ta) (hb : attributeBase e f X.env (eval e X.env) = eval e X.env) : PE X (.Attribute e f pos) (tFld X.K ta f) := by
  intro pins s σ H Q I h
  refine attr_of hb (thn (he pins s σ H _ I h) fun u s1 ⟨x, H1, I1, rx, a, C, dx, fs, v, ex, ea, c, n, l, q⟩ => ?_)
  subst ex
  obtain rfl : u = Value.ref a := rx
  exact getattr_ok I1 ea c n l fun u' s2 I2 ru => ⟨v, H1, I2, ru, q⟩
theorem pe_con (he : PE X e ta) (hb : attributeBase e f X.env (eval e X.env) = eval e X.env) : PE X (.Attribute e f pos) (tCon X.K ta f) := by
  intro pins s σ H Q I h
  refine attr_of hb (thn (he pins s σ H _ I h) fun u s1 ⟨x, H1, I1, rx, a, C, dx, fs, v, u0, ex, ea, c, k, l, q⟩ => ?_)
  subst ex
  obtain rfl : u = Value.ref a := rx
  exact getcon_ok I1 ea c k l fun s2 I2 => ⟨v, H1, I2, k.rel, q⟩
theorem ps_fld (ha : PE X o ta) (hv : PE X value tv) (hs : swapsWith value (some (.Attribute o f pos')) pos.line X.env = pure false) : PS X (.Assign [.Attribute o f pos'] value pos) (sFld X.K ta tv f) := by
  intro pins s σ H D I h
  refine plainObj_wpAny_Assign_Attribute (thn (hv pins s σ H _ I h) fun u s1 ⟨y, H1, I1, ry, q⟩ => thn (ha pins s1 σ H1 _ I1 q) fun ov s2 ⟨x, H2, I2, rx, a, C, dx, fs, ex, ea, c, n, l, q2⟩ => ?_) hs
  subst ex
  obtain rfl : ov = Value.ref a := rx
  exact setattr_ok I2 ea c n l ry fun s3 I3 => ⟨σ, _, I3, q2⟩
theorem ps_fldaug {op : Operator} {rd : V → V → Hp → VK → Prop} (ha : PE X o ta) (hv : PE X value tv) (hop : InOp X op rd) : PS X (.AugAssign (.Attribute o f tpos) op value pos) (sFldAug X.K ta tv rd f) := by
  intro pins s σ H D I h
  refine wpAny_AugAssign_AttributeAny (thn (ha pins s σ H _ I h) fun ov s1 ⟨x, H1, I1, rx, a, C, dx, fs, v, ex, ea, c, n, l, q⟩ => ?_)
  subst ex
  obtain rfl : ov = Value.ref a := rx
  refine getattr_ok I1 ea c n l fun u s2 I2 ru => thn (hv pins s2 σ H1 _ I2 q) fun w3 s3 ⟨y, H2, I3, ry, q3⟩ => thn (hop pins s3 σ H2 v y u w3 _ I3 ru ry q3) fun w4 s4 ⟨z, H3, I4, rz, dx', fs', ea', l', q4⟩ => ?_
  exact setattr_ok I4 ea' c n l' rz fun s5 I5 => ⟨σ, _, I5, q4⟩
def rAdd : V → V → Hp → VK → Prop := fun x y H Q => ∃ i j, x = .int i ∧ y = .int j ∧ Q (.int (i + j)) H
def rSub : V → V → Hp → VK → Prop := fun x y H Q => ∃ i j, x = .int i ∧ y = .int j ∧ Q (.int (i - j)) H
theorem in_add : InOp X .Add rAdd := by
  rintro pins s σ H x y u v Q I rx ry ⟨i, j, rfl, rfl, q⟩
  obtain ⟨t, rfl⟩ := (show ∃ t, u = Value.int i t from rx)
  obtain ⟨t', rfl⟩ := (show ∃ t', v = Value.int j t' from ry)
  exact PyProof.Rows.iadd_int ⟨.int (i + j), H, I.tok _, ⟨_, rfl⟩, q⟩
theorem in_sub : InOp X .Sub rSub := by
  rintro pins s σ H x y u v Q I rx ry ⟨i, j, rfl, rfl, q⟩
  obtain ⟨t, rfl⟩ := (show ∃ t, u = Value.int i t from rx)
  obtain ⟨t', rfl⟩ := (show ∃ t', v = Value.int j t' from ry)
  exact PyProof.Rows.isub_int ⟨.int (i - j), H, I.tok _, ⟨_, rfl⟩, q⟩

/-- what is between an instance and its method: the tree of a method call -/
theorem methcall_of {pl : Sem Bool} {m : Str} {apos : Pos} {args : List Expr} {pins : List (Addr × Obj)} {s : Shared} {σ : St} {H : Hp} {Q : Value → Shared → Prop} {te : TE} (he : PE X e te) (I : Inv X pins σ H s)
    (h : te σ H fun x H1 => ∃ a C dx fs g, x = .ref a ∧ H1 a = some (.ins C dx fs) ∧ Cls X.K C ∧ Meth X.K C m g ∧ fs.lookup m = none ∧
      ∀ s1, Inv X pins σ H1 s1 → wpAny (model X.prog X.w) X.A (callWith pos (.ref g) [.ref a] (backTo pos (starEach args X.env)) (backToKw pos (keywordEach [] X.env))) Q X.xe s1)
    (ht : eval (.Call (.Attribute e m apos) args [] pos) X.env = (do
      let ov ← eval e X.env
      standAt apos.atName
      let (f, first) ← holding [ov] (getMethod ov m pl)
      callWith pos f first (backTo pos (starEach args X.env)) (backToKw pos (keywordEach [] X.env)))) :
    wpAny (model X.prog X.w) X.A (eval (.Call (.Attribute e m apos) args [] pos) X.env) Q X.xe s := by
  refine PySem.W.methodCall_KW (pl := pl) (thn (he pins s σ H _ I h) fun u s1 ⟨x, H1, I1, rx, a, C, dx, fs, g, ex, ea, c, k, l, q⟩ => ?_) ht
  subst ex
  obtain rfl : u = Value.ref a := rx
  exact getmeth_ok I1 ea c k l (q s1 I1)
end

/-! ### isinstance -/
section
variable {X : Cx} {pins : List (Addr × Obj)} {σ : St} {H : Hp} {s : Shared} {A : Around} {E : Value → Shared → Prop} {Q : Value → Shared → Prop} {c : Value} {b : Bool}
/-- the type of a value, as the fragment's deciders take it; for an instance its class -/
inductive TyOf (K : PySem.W.Frag) (H : Hp) : V → Value → Prop where
  | non : TyOf K H .non (.type "NoneType")
  | bl (x : Bool) : TyOf K H (.bl x) (.type "bool")
  | int (i : Int) : TyOf K H (.int i) (.type "int")
  | str (x : Str) : TyOf K H (.str x) (.type "str")
  | flt (x : UInt64) : TyOf K H (.flt x) (.type "float")
  | lst {a : Addr} {xs : List V} (e : H a = some (.lst xs)) : TyOf K H (.ref a) (.type "list")
  | frz {a : Addr} {o : Obj} {xs : List V} (e : H a = some (.frz o (.lst xs))) : TyOf K H (.ref a) (.type "list")
  | tup {a : Addr} {xs : List V} (e : H a = some (.tup xs)) : TyOf K H (.ref a) (.type "tuple")
  | dK {a : Addr} {kvs : List (Key × V)} (e : H a = some (.dK kvs)) : TyOf K H (.ref a) (.type "dict")
  | dT {a : Addr} {kvs : List (List Key × V)} (e : H a = some (.dT kvs)) : TyOf K H (.ref a) (.type "dict")
  | ins {a C dx : Addr} {fs : List (Str × V)} (e : H a = some (.ins C dx fs)) (cl : Cls K C) (ha : PySem.W.findIn K (.ref C) "__class__" = some (some (.builtin "object.__class__")))
      (hn : PySem.W.specialIn K (.builtin "object.__class__") "__get__" = some (some (.builtin "getset_descriptor.__get__"))) (htk : PySem.W.takesIn K (.builtin "object.__class__") = some true)
      (hm : PySem.W.mroIn K C (.type "object") = some true) : TyOf K H (.ref a) (.ref C)
/-- isinstance(x, c) for one class c, a built-in or an own one: kitOne's answer -/
theorem isinst_ok {x : V} {u t : Value} (I : Inv X pins σ H s) (rx : RelV x u) (ty : TyOf X.K H x t) (e : PySem.W.kitOne X.K t c = some b) (h : ∀ tk, Q (.bool b) { s with toks := tk }) :
    wpAny (model X.prog X.w) A (call (.builtin "isinstance") [u, c]) Q E s := by
  cases ty with
  | non => cases (show u = Value.none from rx); exact PySem.W.kia_one PySem.W.kitx_none I.kIn True.intro e (fun z => nomatch z) h
  | bl y => cases (show u = Value.bool y from rx); exact PySem.W.kia_one PySem.W.kitx_bool I.kIn True.intro e (fun z => nomatch z) h
  | int i => obtain ⟨t, q⟩ := (show ∃ t, u = Value.int i t from rx); cases q; exact PySem.W.kia_one PySem.W.kitx_int I.kIn True.intro e (fun z => nomatch z) h
  | str y => obtain ⟨t, q⟩ := (show ∃ t, u = Value.str y t from rx); cases q; exact PySem.W.kia_one PySem.W.kitx_str I.kIn True.intro e (fun z => nomatch z) h
  | flt y => obtain ⟨t, q⟩ := (show ∃ t, u = Value.float y t from rx); cases q; exact PySem.W.kia_one PySem.W.kitx_float I.kIn True.intro e (fun z => nomatch z) h
  | @lst a xs ea =>
    cases (show u = Value.ref a from rx)
    obtain ⟨_, _, n, _, h1⟩ := (show ObjOk X.prog X.w H s.heap a (.lst xs) from I.hok a _ ea)
    exact PySem.W.kia_one PySem.W.kitx_list I.kIn ⟨_, h1, rfl⟩ e (fun z => nomatch z) h
  | @frz a ob xs ea =>
    cases (show u = Value.ref a from rx)
    obtain ⟨_, _, _, n, _, h1⟩ := (show ObjOk X.prog X.w H s.heap a (.frz ob (.lst xs)) from I.hok a _ ea)
    exact PySem.W.kia_one PySem.W.kitx_list I.kIn ⟨_, h1, rfl⟩ e (fun z => nomatch z) h
  | @tup a xs ea =>
    cases (show u = Value.ref a from rx)
    obtain ⟨_, _, _, p⟩ := (show ObjOk X.prog X.w H s.heap a (.tup xs) from I.hok a _ ea)
    obtain ⟨o, h1, h2, _⟩ := p
    exact PySem.W.kia_one PySem.W.kitx_tuple I.kIn ⟨o, h1, h2⟩ e (fun z => nomatch z) h
  | @dK a kvs ea =>
    cases (show u = Value.ref a from rx)
    obtain ⟨_, _, vs, _, p⟩ := (show ObjOk X.prog X.w H s.heap a (.dK kvs) from I.hok a _ ea)
    obtain ⟨o, es, ep, h1, h2, _⟩ := p
    exact PySem.W.kia_one PySem.W.kitx_dict I.kIn ⟨o, h1, h2.1⟩ e (fun z => nomatch z) h
  | @dT a kvs ea =>
    cases (show u = Value.ref a from rx)
    obtain ⟨_, _, xs, _, o, es, ep, h1, h2, _⟩ := (show ObjOk X.prog X.w H s.heap a (.dT kvs) from I.hok a _ ea)
    exact PySem.W.kia_one PySem.W.kitx_dict I.kIn ⟨o, h1, h2.1⟩ e (fun z => nomatch z) h
  | @ins a C dx fs ea cl ha hn htk hm =>
    cases (show u = Value.ref a from rx)
    obtain ⟨mA, O, _⟩ := ins_get I.hok ea
    obtain ⟨od, J, _⟩ := O.look
    exact PySem.W.kia_one (PySem.W.kitx_own (cl.get _) cl.hd ha hn htk hm) I.kIn J e (fun z => nomatch z) h
end
end L2

namespace L2
open PySem PySem.Spec PyProof.Rows

/-! ### room -/
structure Room (k : Nat) (A : Around) : Prop where
  hd : A.handled = none
  dp : A.depth + 3 * k + 5 < recursionLimit
  un : A.units + 16 * k + 200 < cLine
theorem Room.mono {j k : Nat} {A : Around} (r : Room k A) (h : j ≤ k) : Room j A := ⟨r.hd, by have := r.dp; omega, by have := r.un; omega⟩
theorem Room.deeper {k : Nat} {A : Around} (r : Room (k + 1) A) (env : Env) : Room k (A.deeper env) :=
  ⟨r.hd, by have := r.dp; show A.depth + 1 + 3 * k + 5 < _; omega, by have := r.un; show A.units + 3 + 16 * k + 200 < _; omega⟩
theorem Room.in1 {k : Nat} {A : Around} (r : Room (k + 1) A) : Room k A.in1 :=
  ⟨r.hd, by have := r.dp; show A.depth + 3 * k + 5 < _; omega, by have := r.un; show A.units + 1 + 16 * k + 200 < _; omega⟩
theorem make_depth {A : Around} {C : Addr} {us : List Value} {kw : List (Str × Value)} : (A.under (.builtin "type.__call__" ⟨.ref C :: us, kw⟩)).depth = A.depth + 1 := by
  first | rfl | simp [Around.under, Code.weight, Code.isCreation, Code.isGuard, Code.isCaller, Code.frames, Code.isFrame, guardIds]
theorem make_units {A : Around} {C : Addr} {us : List Value} {kw : List (Str × Value)} : (A.under (.builtin "type.__call__" ⟨.ref C :: us, kw⟩)).units = A.units + 1 := by
  first | rfl | simp [Around.under, Code.cUnits, Code.frames, Code.isFrame]
theorem Room.make {k : Nat} {A : Around} (r : Room (k + 1) A) (C : Addr) (us : List Value) (kw : List (Str × Value)) : Room k (A.under (.builtin "type.__call__" ⟨.ref C :: us, kw⟩)) :=
  ⟨r.hd, by have := r.dp; rw [make_depth]; omega, by have := r.un; rw [make_units]; omega⟩
theorem Room.depth {k : Nat} {A : Around} (r : Room k A) : A.depth < recursionLimit := by have := r.dp; omega
theorem Room.units {k : Nat} {A : Around} (r : Room k A) : A.units + 64 < cLine := by have := r.un; omega
theorem Room.units0 {k : Nat} {A : Around} (r : Room k A) : A.units < cLine := by have := r.un; omega

/-! ### argument lists and displays -/
def tNil : TA := fun _ H Q => Q [] H
def tCons (ta : TE) (tr : TA) : TA := fun σ H Q => ta σ H fun x H1 => tr σ H1 fun xs H2 => Q (x :: xs) H2
section
variable {X : Cx} {e : Expr} {es : List Expr} {te : TE} {t : TA} {pos : Pos}
theorem pa_nil : PA X [] tNil := fun _ _ _ _ H Q I h => Calls.spliced_nil ⟨[], H, I, .nil, h⟩
theorem pa_cons (ha : PE X e te) (hr : PA X es t) (hs : starEach (e :: es) X.env = (false, eval e X.env) :: starEach es X.env := by rfl) : PA X (e :: es) (tCons te t) := by
  intro pos pins s σ H Q I h
  rw [hs]
  show wpAny _ _ (spliced ((false, eval e X.env) :: backTo pos (starEach es X.env))) _ _ s
  refine Calls.spliced_cons (thn (ha pins s σ H _ I h) fun u s1 ⟨x, H1, I1, r1, q1⟩ => ?_)
  exact thn (hr pos pins s1 σ H1 _ I1 q1) fun us s2 ⟨xs, H2, I2, r2, q2⟩ => ⟨x :: xs, H2, I2, .cons r1 r2, q2⟩

/-- a tuple, a list of written items -/
def tTup (t : TA) : TE := fun σ H Q => t σ H fun xs H1 => xs.length ≤ sizeLine ∧ ∀ p, H1 p = none → Q (.ref p) (upd H1 p (.tup xs))
def tLst (t : TA) : TE := fun σ H Q => t σ H fun xs H1 => xs.length ≤ sizeLine ∧ ∀ p, H1 p = none → Q (.ref p) (upd H1 p (.lst xs))
theorem pe_tup {x1} (h : PA X es t) : PE X (.Tuple es x1 pos) (tTup t) := by
  intro pins s σ H Q I hq
  refine wpAny_Tuple_spliced (thn (h pos pins s σ H _ I hq) fun us s1 ⟨xs, H1, I1, r, z, q⟩ => ⟨by rw [← r.length]; exact z, ?_⟩)
  have hf : H1 s1.heap.objs.size = none := I1.hok.fresh (Nat.le_refl _)
  refine ⟨.ref s1.heap.objs.size, upd H1 s1.heap.objs.size (.tup xs), I1.laid (t' := s1.toks) (fun b u e => Heap.get?_push_of_some _ e) (Nat.le_refl _) ?_, rfl, q _ hf⟩
  exact ⟨z, us, r, ⟨_, Heap.get?_push_size _ rfl, rfl, _, rfl⟩⟩
theorem pe_lst (h : PA X es t) : PE X (.List es pos) (tLst t) := by
  intro pins s σ H Q I hq
  refine wpAny_List_spliced (thn (h pos pins s σ H _ I hq) fun us s1 ⟨xs, H1, I1, r, z, q⟩ => ⟨by rw [← r.length]; exact z, ?_⟩)
  have hf : H1 s1.heap.objs.size = none := I1.hok.fresh (Nat.le_refl _)
  refine ⟨.ref s1.heap.objs.size, upd H1 s1.heap.objs.size (.lst xs), I1.laid (t' := s1.toks) (fun b u e => Heap.get?_push_of_some _ e) (Nat.le_refl _) ?_, rfl, q _ hf⟩
  exact ⟨z, us, 0, r, Heap.get?_push_size _ rfl⟩
end

/-! ### what a def promises -/
/-- a def's promise: the bound arguments in the parameters' order, the heap, the wanted end, the wanted exception -/
abbrev Sp := List V → Hp → VK → XK → Prop
/-- how an exception lies behind a call (file 08 gives it): the callers' frames, abstract heap and state ahead of the call, the wish, the exception, the state -/
abbrev CXT := List Env → Hp → Shared → XK → Value → Shared → Prop

/-- the state at a call -/
structure Env0 (P : Program) (w : World) (K : PySem.W.Frag) (mg : Str → Option Value) (base : Heap) (A : Around) (outer : List Env) (s : Shared) (H : Hp) : Prop where
  frames : A.frames = some outer
  mod : Mod K mg base
  bs : ∀ b o, base.get? b = some o → s.heap.get? b = some o ∧ H b = none
  bsz : base.objs.size ≤ s.heap.objs.size
  funs : s.heap.FunFrames base outer
  frf : ∀ b ∈ frs outer, H b = none
  hok : HOk P w H s.heap
  bare : AllBare s.gens
/-- a call's end -/
def CE (outer : List Env) (P : Program) (w : World) (H : Hp) (s : Shared) (Q : VK) (u : Value) (s' : Shared) : Prop :=
  ∃ v H', s'.os = s.os ∧ AllBare s'.gens ∧ Un (frs outer) [] H H' s.heap s'.heap ∧ HOk P w H' s'.heap ∧ RelV v u ∧ Q v H'
def CR (CX : CXT) (outer : List Env) (P : Program) (w : World) (H : Hp) (s : Shared) (Q : VK) (E : XK) (r : Result) (s' : Shared) : Prop :=
  match r with
  | .ok (.ret u) => CE outer P w H s Q u s'
  | .ok _ => False
  | .error e => CX outer H s E e s'
structure FnOk (P : Program) (w : World) (K : PySem.W.Frag) (mg : Str → Option Value) (base : Heap) (CX : CXT) (k : Nat) (f : Addr) (fd : FuncData) (ps : List Str) (sp : Sp) : Prop where
  len : ∀ vs H Q E, sp vs H Q E → vs.length = ps.length
  run : ∀ (A : Around) (outer : List Env) (s : Shared) (H : Hp) (args : Args) (us : List Value) (vs : List V) (Q : VK) (E : XK), Room k A → Env0 P w K mg base A outer s H → BindsTo s fd args (ps.zip us) → Vals vs us → sp vs H Q E →
    codeAny (model P w) A (.call (.ref f) args) (CR CX outer P w H s Q E) s
theorem FnOk.mono {P : Program} {w : World} {K : PySem.W.Frag} {mg : Str → Option Value} {base : Heap} {CX : CXT} {j k : Nat} {f : Addr} {fd : FuncData} {ps : List Str} {sp : Sp} (F : FnOk P w K mg base CX j f fd ps sp) (h : j ≤ k) :
    FnOk P w K mg base CX k f fd ps sp := ⟨F.len, fun A outer s H args us vs Q E hr => F.run A outer s H args us vs Q E (hr.mono h)⟩
/-- a weaker promise -/
theorem FnOk.imp {P : Program} {w : World} {K : PySem.W.Frag} {mg : Str → Option Value} {base : Heap} {CX : CXT} {k : Nat} {f : Addr} {fd : FuncData} {ps : List Str} {sp sp' : Sp} (F : FnOk P w K mg base CX k f fd ps sp)
    (h : ∀ vs H Q E, sp' vs H Q E → sp vs H Q E) : FnOk P w K mg base CX k f fd ps sp' :=
  ⟨fun vs H Q E q => F.len vs H Q E (h _ _ _ _ q), fun A outer s H args us vs Q E hr he hb hv hs => F.run A outer s H args us vs Q E hr he hb hv (h _ _ _ _ hs)⟩

theorem Env0.make {P : Program} {w : World} {K : PySem.W.Frag} {mg : Str → Option Value} {base : Heap} {A : Around} {outer : List Env} {s : Shared} {H : Hp} (e : Env0 P w K mg base A outer s H) (C : Addr) (us : List Value) (kw : List (Str × Value)) :
    Env0 P w K mg base (A.under (.builtin "type.__call__" ⟨.ref C :: us, kw⟩)) outer s H := ⟨by first | exact e.frames | (simpa [Around.under, Code.envs, Code.isFrame, pushEnvs] using e.frames), e.mod, e.bs, e.bsz, e.funs, e.frf, e.hok, e.bare⟩
theorem Env0.in1 {P : Program} {w : World} {K : PySem.W.Frag} {mg : Str → Option Value} {base : Heap} {A : Around} {outer : List Env} {s : Shared} {H : Hp} (e : Env0 P w K mg base A outer s H) :
    Env0 P w K mg base A.in1 outer s H := ⟨e.frames, e.mod, e.bs, e.bsz, e.funs, e.frf, e.hok, e.bare⟩

section
variable {X : Cx} {pins : List (Addr × Obj)} {σ : St} {H : Hp} {s s' : Shared}
/-- from a body: what a callee wants -/
theorem Inv.env0 (I : Inv X pins σ H s) : Env0 X.prog X.w X.K X.mg X.base X.A X.stack s H :=
  ⟨I.ok.frames, I.ok.mod, I.bs, Nat.le_trans I.ok.bsz I.sz, I.stack, I.stkFree, I.hok, I.bare⟩
/-- behind a call -/
theorem Inv.after {Q : VK} {u : Value} (I : Inv X pins σ H s) (h : CE X.stack X.prog X.w H s Q u s') : EP X pins σ Q u s' := by
  obtain ⟨v, H', os, bare, un, hok, r, q⟩ := h
  obtain ⟨hh, g, d, t, os'⟩ := s'
  obtain rfl : os' = s.os := os
  exact ⟨v, H', I.call (h' := hh) (g' := g) (d' := d) (t' := t) (ch := []) un hok bare (fun b z => absurd z (by simp)), r, q⟩
end

/-! ### calls -/
/-- f(..): the written arguments, then the defaults dvs; E: what is wanted of an exception -/
def tCall (sp : Sp) (dvs : List V) (E : XK) (t : TA) : TE := fun σ H Q => t σ H fun vs H1 => sp (vs ++ dvs) H1 Q E
/-- o.m(..) of an instance of the class at C -/
def tMeth (C : Addr) (m : Str) (sp : Sp) (dvs : List V) (E : XK) (ta : TE) (t : TA) : TE := fun σ H Q => ta σ H fun x H1 => ∃ a dx fs, x = .ref a ∧ H1 a = some (.ins C dx fs) ∧ fs.lookup m = none ∧
  t σ H1 fun vs H2 => sp (x :: (vs ++ dvs)) H2 Q E
/-- C(..): a new instance and its dict, then __init__ -/
def tMake (C : Addr) (sp : Sp) (dvs : List V) (E : XK) (t : TA) : TE := fun σ H Q => t σ H fun vs H1 => ∀ x dx, H1 x = none → H1 dx = none → dx ≠ x →
  sp (.ref x :: (vs ++ dvs)) (upd (upd H1 dx (.own x)) x (.ins C dx [])) (fun v H2 => v = .non ∧ Q (.ref x) H2) E

/-- how the parameters are bound: us the positional arguments, kw the keywords' values by name, ds the defaults that fill up -/
def Binds (K : PySem.W.Frag) (fd : FuncData) (ps : List Str) (ds : List Value) : Prop :=
  ∀ (s : Shared) (us : List Value), K.In s.heap → (us ++ ds).length = ps.length → BindsTo s fd ⟨us, []⟩ (ps.zip (us ++ ds))
/-- every parameter is given -/
theorem Binds.all {K : PySem.W.Frag} {fd : FuncData} {ps : List Str} (h : ∀ us : List Value, us.length = ps.length → bindArgs fd ⟨us, []⟩ = pure (ps.zip us)) : Binds K fd ps [] := fun s us _ hl => by
  rw [List.append_nil] at hl ⊢
  exact .of_eq (h us hl)

/-- an exception of a callee reaches what this body wants of exceptions -/
def Passes (CX : CXT) (X : Cx) (E : XK) : Prop := ∀ (pins : List (Addr × Obj)) (σ : St) (H : Hp) (s : Shared) (e : Value) (s' : Shared), Inv X pins σ H s → CX X.stack H s E e s' → X.xe e s'

section
variable {X : Cx} {CX : CXT} {k : Nat} {f C : Addr} {fd : FuncData} {ps : List Str} {sp : Sp} {dvs : List V} {ds : List Value} {E : XK} {x m : Str} {p pos apos : Pos} {e o : Expr} {es : List Expr} {ta : TE} {t : TA}

/-- the callee runs -/
theorem run_fn {pins : List (Addr × Obj)} {σ : St} {H : Hp} {s : Shared} {Q : VK} {us : List Value} {vs : List V} (F : FnOk X.prog X.w X.K X.mg X.base CX k f fd ps sp) (hr : Room k X.A) (hb : Binds X.K fd ps ds) (hd : Vals dvs ds) (hx : Passes CX X E)
    (I : Inv X pins σ H s) (r : Vals vs us) (h : sp (vs ++ dvs) H Q E) : wpAny (model X.prog X.w) X.A (call (.ref f) us) (EP X pins σ Q) X.xe s := by
  have r2 : Vals (vs ++ dvs) (us ++ ds) := r.append hd
  have hl : (us ++ ds).length = ps.length := by rw [← r2.length]; exact F.len _ _ _ _ h
  refine wpAny_call (codeAny_mono (F.run X.A X.stack s H ⟨us, []⟩ (us ++ ds) (vs ++ dvs) Q E hr I.env0 (hb s us I.kIn hl) r2 h) fun r s' hq => ?_)
  cases r with
  | error e => exact hx pins σ H s e s' I hq
  | ok fl =>
    cases fl with
    | ret u => exact I.after hq
    | next => exact False.elim hq
    | brk => exact False.elim hq
    | cont => exact False.elim hq

theorem pe_call (F : FnOk X.prog X.w X.K X.mg X.base CX k f fd ps sp) (hr : Room k X.A) (hg : Gl X x) (hm : X.mg x = some (.ref f)) (hk : PySem.W.keepIn X.K (.ref f) = true) (hb : Binds X.K fd ps ds) (hd : Vals dvs ds) (hx : Passes CX X E)
    (ha : PA X (e :: es) t) (hdb : (x == ("__debug__" : Str)) = false := by decide) (he : starEach (e :: es) X.env = (false, eval e X.env) :: starEach es X.env := by rfl) (hpl : (backTo pos (starEach es X.env)).any (·.1) = false := by rfl) :
    PE X (.Call (.Name x p) (e :: es) [] pos) (tCall sp dvs E t) := by
  intro pins s σ H Q I h
  refine wpAny_Call_Name_kw (ld_glob I hg hm ?_ hdb)
  refine PySem.W.callWith_K (h₀ := X.base) I.ok.mod.kin hk (thn (ha pos pins s σ H _ I h) fun us s1 ⟨vs, H1, I1, r, q⟩ => ⟨I1.kIn, ?_⟩) he hpl
  exact run_fn F hr hb hd hx I1 r q
theorem pe_call0 (F : FnOk X.prog X.w X.K X.mg X.base CX k f fd ps sp) (hr : Room k X.A) (hg : Gl X x) (hm : X.mg x = some (.ref f)) (hk : PySem.W.keepIn X.K (.ref f) = true) (hb : Binds X.K fd ps ds) (hd : Vals dvs ds) (hx : Passes CX X E)
    (hdb : (x == ("__debug__" : Str)) = false := by decide) : PE X (.Call (.Name x p) [] [] pos) (tCall sp dvs E tNil) := by
  intro pins s σ H Q I h
  refine wpAny_Call_Name_kw (ld_glob I hg hm ?_ hdb)
  exact PySem.W.callWith_K0 I.kIn hk (run_fn (us := []) F hr hb hd hx I .nil h)

/-- o.m(e, ..) -/
theorem pe_meth {pl : Sem Bool} (he : PE X o ta) (c : Cls X.K C) (hm : Meth X.K C m f) (F : FnOk X.prog X.w X.K X.mg X.base CX k f fd ps sp) (hr : Room k X.A) (hb : Binds X.K fd ps ds) (hd : Vals dvs ds) (hx : Passes CX X E) (ha : PA X (e :: es) t)
    (hst : starEach (e :: es) X.env = (false, eval e X.env) :: starEach es X.env := by rfl) (hpl : (backTo pos (starEach es X.env)).any (·.1) = false := by rfl)
    (ht : eval (.Call (.Attribute o m apos) (e :: es) [] pos) X.env = (do
      let ov ← eval o X.env
      standAt apos.atName
      let (f, first) ← holding [ov] (getMethod ov m pl)
      callWith pos f first (backTo pos (starEach (e :: es) X.env)) (backToKw pos (keywordEach [] X.env))) := by rfl) :
    PE X (.Call (.Attribute o m apos) (e :: es) [] pos) (tMeth C m sp dvs E ta t) := by
  intro pins s σ H Q I h
  refine PySem.W.methodCall_KW (pl := pl) (thn (he pins s σ H _ I h) fun u s1 ⟨x, H1, I1, rx, a, dx, fs, ex, ea, l, q⟩ => ?_) ht
  subst ex
  obtain rfl : u = Value.ref a := rx
  refine getmeth_ok I1 ea c hm l ?_
  refine PySem.W.callWith_K (first := [.ref a]) (h₀ := X.base) I.ok.mod.kin hm.kp (thn (ha pos pins s1 σ H1 _ I1 q) fun us s2 ⟨vs, H2, I2, r, q2⟩ => ⟨I2.kIn, ?_⟩) hst hpl
  exact run_fn (us := .ref a :: us) (vs := .ref a :: vs) F hr hb hd hx I2 (.cons rfl r) q2
/-- o.m() -/
theorem pe_meth0 {pl : Sem Bool} (he : PE X o ta) (c : Cls X.K C) (hm : Meth X.K C m f) (F : FnOk X.prog X.w X.K X.mg X.base CX k f fd ps sp) (hr : Room k X.A) (hb : Binds X.K fd ps ds) (hd : Vals dvs ds) (hx : Passes CX X E)
    (ht : eval (.Call (.Attribute o m apos) [] [] pos) X.env = (do
      let ov ← eval o X.env
      standAt apos.atName
      let (f, first) ← holding [ov] (getMethod ov m pl)
      callWith pos f first (backTo pos (starEach [] X.env)) (backToKw pos (keywordEach [] X.env))) := by rfl) :
    PE X (.Call (.Attribute o m apos) [] [] pos) (tMeth C m sp dvs E ta tNil) := by
  intro pins s σ H Q I h
  refine PySem.W.methodCall_KW (pl := pl) (thn (he pins s σ H _ I h) fun u s1 ⟨x, H1, I1, rx, a, dx, fs, ex, ea, l, q⟩ => ?_) ht
  subst ex
  obtain rfl : u = Value.ref a := rx
  refine getmeth_ok I1 ea c hm l ?_
  exact PySem.W.callWith_K0 (first := [.ref a]) I1.kIn hm.kp (run_fn (us := [.ref a]) (vs := [.ref a]) F hr hb hd hx I1 (.cons rfl .nil) q)

/-- what a class must have to be made -/
structure Mk (K : PySem.W.Frag) (C f : Addr) : Prop where
  makes : PySem.W.makesIn K C = true
  init : PySem.W.findIn K (.ref C) "__init__" = some (some (.ref f))
  fn : PySem.W.isFn K (.ref f) = true
  kp : PySem.W.keepIn K (.ref C) = true

theorem run_make {pins : List (Addr × Obj)} {σ : St} {H : Hp} {s : Shared} {Q : VK} {us : List Value} {vs : List V} (M : Mk X.K C f) (F : FnOk X.prog X.w X.K X.mg X.base CX k f fd ps sp) (hr : Room (k + 1) X.A) (hb : Binds X.K fd ps ds) (hd : Vals dvs ds)
    (hx : Passes CX X E) (I : Inv X pins σ H s) (r : Vals vs us)
    (h : ∀ x dx, H x = none → H dx = none → dx ≠ x → sp (.ref x :: (vs ++ dvs)) (upd (upd H dx (.own x)) x (.ins C dx [])) (fun v H2 => v = .non ∧ Q (.ref x) H2) E) :
    wpAny (model X.prog X.w) X.A (call (.ref C) us) (EP X pins σ Q) X.xe s := by
  have hq := h (s.heap.objs.size + 1) s.heap.objs.size (I.hok.fresh (Nat.le_succ _)) (I.hok.fresh (Nat.le_refl _)) (Nat.ne_of_lt (Nat.lt_succ_self _))
  have I2 := Inv.made (C := C) I
  have r2 : Vals (V.ref (s.heap.objs.size + 1) :: (vs ++ dvs)) (Value.ref (s.heap.objs.size + 1) :: (us ++ ds)) := .cons rfl (r.append hd)
  have hl : (Value.ref (s.heap.objs.size + 1) :: us ++ ds).length = ps.length := by
    have e := r2.length
    rw [F.len _ _ _ _ hq] at e
    exact e.symm
  refine wpAny_call (make_map (f := f) I.kIn M.makes M.init (beq_iff_eq.mp M.fn) (codeAny_mono (F.run _ X.stack _ _ ⟨Value.ref (s.heap.objs.size + 1) :: us, []⟩ (Value.ref (s.heap.objs.size + 1) :: (us ++ ds)) _ _ E (hr.make C us [])
    (I2.env0.make C us []) (hb _ (Value.ref (s.heap.objs.size + 1) :: us) I2.kIn hl) r2 hq) fun r s' hq' => ?_))
  cases r with
  | error e => exact hx pins σ _ _ e s' I2 hq'
  | ok fl =>
    cases fl with
    | ret u =>
      obtain ⟨v, H', I3, rv, ev, q3⟩ := I2.after hq'
      subst ev
      exact ⟨rv, ⟨V.ref (s.heap.objs.size + 1), H', I3, rfl, q3⟩⟩
    | next => exact False.elim hq'
    | brk => exact False.elim hq'
    | cont => exact False.elim hq'
theorem pe_make (M : Mk X.K C f) (F : FnOk X.prog X.w X.K X.mg X.base CX k f fd ps sp) (hr : Room (k + 1) X.A) (hg : Gl X x) (hm : X.mg x = some (.ref C)) (hb : Binds X.K fd ps ds) (hd : Vals dvs ds) (hx : Passes CX X E)
    (ha : PA X (e :: es) t) (hdb : (x == ("__debug__" : Str)) = false := by decide) (he : starEach (e :: es) X.env = (false, eval e X.env) :: starEach es X.env := by rfl) (hpl : (backTo pos (starEach es X.env)).any (·.1) = false := by rfl) :
    PE X (.Call (.Name x p) (e :: es) [] pos) (tMake C sp dvs E t) := by
  intro pins s σ H Q I h
  refine wpAny_Call_Name_kw (ld_glob I hg hm ?_ hdb)
  refine PySem.W.callWith_K (h₀ := X.base) I.ok.mod.kin M.kp (thn (ha pos pins s σ H _ I h) fun us s1 ⟨vs, H1, I1, r, q⟩ => ⟨I1.kIn, ?_⟩) he hpl
  exact run_make M F hr hb hd hx I1 r q
theorem pe_make0 (M : Mk X.K C f) (F : FnOk X.prog X.w X.K X.mg X.base CX k f fd ps sp) (hr : Room (k + 1) X.A) (hg : Gl X x) (hm : X.mg x = some (.ref C)) (hb : Binds X.K fd ps ds) (hd : Vals dvs ds) (hx : Passes CX X E)
    (hdb : (x == ("__debug__" : Str)) = false := by decide) : PE X (.Call (.Name x p) [] [] pos) (tMake C sp dvs E tNil) := by
  intro pins s σ H Q I h
  refine wpAny_Call_Name_kw (ld_glob I hg hm ?_ hdb)
  exact PySem.W.callWith_K0 I.kIn M.kp (run_make (us := []) M F hr hb hd hx I .nil h)
end

/-! ### keywords -/
/-- the values of the keywords, from the left -/
def PK (X : Cx) (kws : List Keyword) (t : TA) : Prop :=
  ∀ (pos : Pos) (pins : List (Addr × Obj)) (s : Shared) (σ : St) (H : Hp) (Q : List V → Hp → Prop), Inv X pins σ H s → t σ H Q → wpAny (model X.prog X.w) X.A (evalAll ((backToKw pos (keywordEach kws X.env)).map (·.2))) (AP X pins σ Q) X.xe s
section
variable {X : Cx} {CX : CXT} {k : Nat} {f C : Addr} {fd : FuncData} {ps ks : List Str} {sp : Sp} {E : XK} {x m : Str} {p pos apos kpos : Pos} {e o : Expr} {es : List Expr} {kws : List Keyword} {te ta : TE} {t tk : TA} {nm : Option Str}
theorem pk_nil : PK X [] tNil := fun _ _ _ _ H Q I h => wpAny_evalAll_nil ⟨[], H, I, .nil, h⟩
theorem pk_cons (ha : PE X e te) (hr : PK X kws t) : PK X (⟨nm, e, kpos⟩ :: kws) (tCons te t) := by
  intro pos pins s σ H Q I h
  show wpAny _ _ (evalAll ((do let v ← eval e X.env; standAt pos; pure v) :: (backToKw pos (keywordEach kws X.env)).map (·.2))) _ _ s
  refine wpAny_evalAll_cons (wpAny_bind (thn (ha pins s σ H _ I h) fun u s1 ⟨x, H1, I1, r1, q1⟩ => wpAny_bind (wpAny_standAt (wpAny_pure ?_))))
  exact thn (hr pos pins s1 σ H1 _ I1 q1) fun us s2 ⟨xs, H2, I2, r2, q2⟩ => ⟨x :: xs, H2, I2, .cons r1 r2, q2⟩

/-- how a call with keywords binds: g puts the positional values us and the keywords' values ws (names ks) in the parameters' order, defaults among them -/
structure KBinds (K : PySem.W.Frag) (fd : FuncData) (ps ks : List Str) (g : List Value → List Value → List Value) (gV : List V → List V → List V) : Prop where
  to : ∀ (s : Shared) (us ws : List Value), K.In s.heap → (g us ws).length = ps.length → BindsTo s fd ⟨us, ks.zip ws⟩ (ps.zip (g us ws))
  rel : ∀ {vs : List V} {us : List Value} {zs : List V} {ws : List Value}, Vals vs us → Vals zs ws → Vals (gV vs zs) (g us ws)
def tCallK (sp : Sp) (gV : List V → List V → List V) (E : XK) (t tk : TA) : TE := fun σ H Q => t σ H fun vs H1 => tk σ H1 fun zs H2 => sp (gV vs zs) H2 Q E
variable {g : List Value → List Value → List Value} {gV : List V → List V → List V}
theorem run_fnk {pins : List (Addr × Obj)} {σ : St} {H : Hp} {s : Shared} {Q : VK} {us ws : List Value} {vs zs : List V} (F : FnOk X.prog X.w X.K X.mg X.base CX k f fd ps sp) (hr : Room k X.A) (hb : KBinds X.K fd ps ks g gV) (hx : Passes CX X E)
    (I : Inv X pins σ H s) (r : Vals vs us) (rz : Vals zs ws) (h : sp (gV vs zs) H Q E) : wpAny (model X.prog X.w) X.A (call (.ref f) us (ks.zip ws)) (EP X pins σ Q) X.xe s := by
  have r2 := hb.rel r rz
  have hl : (g us ws).length = ps.length := by rw [← r2.length]; exact F.len _ _ _ _ h
  refine wpAny_call (codeAny_mono (F.run X.A X.stack s H ⟨us, ks.zip ws⟩ (g us ws) (gV vs zs) Q E hr I.env0 (hb.to s us ws I.kIn hl) r2 h) fun r s' hq => ?_)
  cases r with
  | error e => exact hx pins σ H s e s' I hq
  | ok fl =>
    cases fl with
    | ret u => exact I.after hq
    | next => exact False.elim hq
    | brk => exact False.elim hq
    | cont => exact False.elim hq
/-- f(e, .., k = v, ..) -/
theorem pe_callK (F : FnOk X.prog X.w X.K X.mg X.base CX k f fd ps sp) (hr : Room k X.A) (hg : Gl X x) (hm : X.mg x = some (.ref f)) (hk : PySem.W.keepIn X.K (.ref f) = true) (hb : KBinds X.K fd ps ks g gV) (hx : Passes CX X E)
    (ha : PA X (e :: es) t) (hkw : PK X kws tk) (hall : (backToKw pos (keywordEach kws X.env)).all (·.1.isSome) = true := by rfl) (hks : (backToKw pos (keywordEach kws X.env)).filterMap (·.1) = ks := by rfl)
    (hdb : (x == ("__debug__" : Str)) = false := by decide) (he : starEach (e :: es) X.env = (false, eval e X.env) :: starEach es X.env := by rfl)
    (hpl : ((backTo pos (starEach (e :: es) X.env)).any (·.1) || (backToKw pos (keywordEach kws X.env)).any (·.1.isNone)) = false := by rfl) :
    PE X (.Call (.Name x p) (e :: es) kws pos) (tCallK sp gV E t tk) := by
  intro pins s σ H Q I h
  refine wpAny_Call_Name_kw (ld_glob I hg hm ?_ hdb)
  refine PySem.W.callWith_KW (h₀ := X.base) I.ok.mod.kin hk hall (thn (ha pos pins s σ H _ I h) fun us s1 ⟨vs, H1, I1, r, q⟩ => ?_) hpl he
  refine thn (hkw pos pins s1 σ H1 _ I1 q) fun ws s2 ⟨zs, H2, I2, rz, q2⟩ => ⟨I2.kIn, ?_⟩
  rw [hks]
  exact run_fnk F hr hb hx I2 r rz q2
end

/-! ### a def's body keeps its promise -/
/-- names: the parameters first -/
structure FnScope (N P : List Str) (sc : Scope) : Prop where
  kind : sc.kind = .function
  co : sc.isCoroutine = false
  gen : sc.isGenerator = false
  nd : N.Nodup
  pre : N.take P.length = P
  par : ∀ x ∈ P, sc.names.lookup x = some .local ∨ sc.names.lookup x = some .cell
  nofree : ∀ y ∈ sc.names, y.2 ≠ .free

theorem bindL_out {kindOf : Str → Option NameKind} {x : Str} : ∀ {binds : List (Str × Value)} {m : Str → Option Value}, (∀ v, (x, v) ∉ binds) → bindL kindOf binds m x = m x
  | [], _, _ => rfl
  | (n, v) :: r, m, h => by
    unfold bindL
    rw [bindL_out fun w hw => h w (List.mem_cons_of_mem _ hw)]
    split
    · have : x ≠ n := by rintro rfl; exact h v List.mem_cons_self
      simp [this]
    · rfl
theorem bindC_out {kindOf : Str → Option NameKind} {x : Str} : ∀ {binds : List (Str × Value)} {m : Str → Option Value}, (∀ v, (x, v) ∉ binds) → bindC kindOf binds m x = m x
  | [], _, _ => rfl
  | (n, v) :: r, m, h => by
    unfold bindC
    rw [bindC_out fun w hw => h w (List.mem_cons_of_mem _ hw)]
    split
    · rfl
    · have : x ≠ n := by rintro rfl; exact h v List.mem_cons_self
      simp [this]
theorem bindL_get {kindOf : Str → Option NameKind} {x : Str} {v : Value} : ∀ {P : List Str} {vs : List Value} {i : Nat} {m : Str → Option Value}, P.Nodup → P[i]? = some x → vs[i]? = some v → kindOf x = some .local →
    bindL kindOf (P.zip vs) m x = some v
  | [], _, _, _, _, h, _, _ => by simp at h
  | _ :: _, [], _, _, _, _, h, _ => by simp at h
  | p :: P, w :: vs, 0, m, nd, h1, h2, hk => by
    simp at h1 h2; subst h1; subst h2
    show bindL kindOf ((p, w) :: P.zip vs) m p = _
    unfold bindL
    rw [bindL_out fun v hv => (List.nodup_cons.mp nd).1 (List.of_mem_zip hv).1, if_pos hk]
    simp
  | p :: P, w :: vs, i + 1, m, nd, h1, h2, hk => by
    show bindL kindOf ((p, w) :: P.zip vs) m x = _
    unfold bindL
    exact bindL_get (i := i) (List.nodup_cons.mp nd).2 (by simpa using h1) (by simpa using h2) hk
theorem bindC_get {kindOf : Str → Option NameKind} {x : Str} {v : Value} : ∀ {P : List Str} {vs : List Value} {i : Nat} {m : Str → Option Value}, P.Nodup → P[i]? = some x → vs[i]? = some v → kindOf x ≠ some .local →
    bindC kindOf (P.zip vs) m x = some v
  | [], _, _, _, _, h, _, _ => by simp at h
  | _ :: _, [], _, _, _, _, h, _ => by simp at h
  | p :: P, w :: vs, 0, m, nd, h1, h2, hk => by
    simp at h1 h2; subst h1; subst h2
    show bindC kindOf ((p, w) :: P.zip vs) m p = _
    unfold bindC
    rw [bindC_out fun v hv => (List.nodup_cons.mp nd).1 (List.of_mem_zip hv).1, if_neg hk]
    simp
  | p :: P, w :: vs, i + 1, m, nd, h1, h2, hk => by
    show bindC kindOf ((p, w) :: P.zip vs) m x = _
    unfold bindC
    exact bindC_get (i := i) (List.nodup_cons.mp nd).2 (by simpa using h1) (by simpa using h2) hk

/-- the names' values at the entry -/
def start (N : List Str) (vs : List V) : St := vs.map some ++ List.replicate (N.length - vs.length) none

/-- the context of a def's body, at its entry; an exception leaves the frame, then lies as CX says -/
def cxOf (CX : CXT) (P : Program) (w : World) (K : PySem.W.Frag) (mg : Str → Option Value) (base : Heap) (N : List Str) (qual : Str) (scope : Scope) (f : Addr) (cd : Value) (A : Around) (outer : List Env) (s : Shared) (H : Hp) (E : XK) : Cx where
  prog := P
  w := w
  K := K
  mg := mg
  base := base
  A := A.deeper (envOfC qual scope s.heap.objs.size f cd)
  N := N
  s₀ := s
  H₀ := H
  env := envOfC qual scope s.heap.objs.size f cd
  outer := outer
  stack := envOfC qual scope s.heap.objs.size f cd :: outer
  ex := []
  calm := true
  fn := fun _ => true
  pn := []
  xe := fun e s' => wpAny (model P w) (A.deeper (envOfC qual scope s.heap.objs.size f cd)) (leaving (envOfC qual scope s.heap.objs.size f cd) e) (fun _ s'' => CX outer H s E e s'') (fun e' s'' => CX outer H s E e' s'') s'

theorem cell_has {sc : Scope} {n : Nat} {x : Str} (h : sc.names.lookup x = some .cell) : ∃ c, (cellsFrom n sc.names []).lookup x = some c := by
  have q := PySem.W.cellsFrom_some sc.names n [] (.inl h)
  exact Option.isSome_iff_exists.mp q

theorem inv_start {CX : CXT} {P : Program} {w : World} {K : PySem.W.Frag} {mg : Str → Option Value} {base : Heap} {N ps : List Str} {qual : Str} {scope : Scope} {f : Addr} {cd : Value} {A : Around} {outer : List Env} {s s1 : Shared} {H : Hp} {E : XK} {us : List Value} {vs : List V}
    (S : FnScope N ps scope) (hd : A.handled = none) (e0 : Env0 P w K mg base A outer s H) (hl : vs.length = ps.length) (r : Vals vs us)
    (x : InCallC s s.heap.objs.size (bindL (envOfC qual scope s.heap.objs.size f cd).kindOf (ps.zip us) fun _ => none) (cellsFrom (s.heap.objs.size + 1) scope.names []) (bindC (envOfC qual scope s.heap.objs.size f cd).kindOf (ps.zip us) fun _ => none) s1) :
    Inv (cxOf CX P w K mg base N qual scope f cd A outer s H E) [] (start N vs) H s1 := by
  have hpl : ps.length ≤ N.length := by have := congrArg List.length S.pre; rw [List.length_take] at this; omega
  obtain ⟨h1, tk, rfl, hk⟩ := x.done
  have noA : ∀ b : Addr, b ∉ (cxOf CX P w K mg base N qual scope f cd A outer s H E).ex := fun b z => absurd (show b ∈ ([] : List Addr) from z) (by simp)
  refine ⟨⟨e0.mod, S.kind, rfl, rfl, Nat.le_refl _, fun y z c h1 h2 => ?_, fun y hy => ?_, fun y c _ h => ?_, fun _ => hd, Around.frames_deeper e0.frames, .inr ⟨rfl, rfl⟩, fun b z => absurd z (noA b), e0.bs, e0.bsz, fun b _ _ => noA b, fun b z => absurd z (noA b), e0.funs, e0.frf⟩,
    rfl, e0.bare, Un.kept hk, ⟨_, x.toInCall.ns, fun i y v h1 h2 h3 => ?_⟩, fun y c h => ⟨_, x.cell y c h⟩, e0.hok.fresh (Nat.le_refl _), fun y c h => ?_, fun p hp => absurd (show p ∈ ([] : List (Addr × Obj)) from hp) (by simp), e0.hok.kept hk, ?_⟩
  · exact name_of_addr x.apart (PySem.mem_of_lookup h1) (PySem.mem_of_lookup h2)
  · have hy : scope.names.lookup y = some .cell ∨ scope.names.lookup y = some .free := hy
    rcases hy with hy | hy
    · exact cell_has hy
    · exact absurd rfl (S.nofree _ (PySem.mem_of_lookup hy))
  · exact Nat.le_of_lt (x.above y c (PySem.mem_of_lookup h))
  · have hi : i < vs.length := by
      unfold start at h2
      by_cases hi : i < vs.length
      · exact hi
      · rw [List.getElem?_append_right (by simpa using hi)] at h2
        rw [List.getElem?_replicate] at h2
        split at h2 <;> cases h2
    have ha : vs[i]? = some v := by
      unfold start at h2
      rw [List.getElem?_append_left (by simpa using hi), List.getElem?_map] at h2
      cases e : vs[i]? with
      | none => rw [e] at h2; cases h2
      | some a => rw [e] at h2; cases h2; rfl
    obtain ⟨u, hu, rv⟩ := r.get ha
    have hp : ps[i]? = some y := by
      rw [← S.pre, List.getElem?_take_of_lt (by omega)]; exact h1
    have ndP : ps.Nodup := by rw [← S.pre]; exact S.nd.sublist (List.take_sublist _ _)
    refine ⟨u, rv, ?_⟩
    rcases S.par y (List.mem_of_getElem? hp) with k | k
    · exact .inl ⟨k, bindL_get ndP hp hu k⟩
    · obtain ⟨c, e⟩ := cell_has (n := s.heap.objs.size + 1) k
      refine .inr ⟨.inl k, c, e, ?_⟩
      have q := x.cell y c e
      rw [bindC_get ndP hp hu (by show scope.names.lookup y ≠ _; rw [k]; decide)] at q
      exact q
  · exact e0.hok.fresh (Nat.le_of_lt (x.above y c (PySem.mem_of_lookup h)))
  · unfold start
    show _ = N.length
    rw [List.length_append, List.length_map, List.length_replicate]
    omega

/-- THE RULE: a def (or a method) of the text, by its body. The body's reading t is chosen for each entry; it is run at the parameters' values -/
theorem fn_of {CX : CXT} {P : Program} {w : World} {K : PySem.W.Frag} {mg : Str → Option Value} {base : Heap} {k : Nat} {f : Addr} {name qual : Str} {params : Arguments} {body : List Stmt} {scope : Scope} {dV kV doc pm cdv ct oc : Value} {an od : Option Addr}
    {osl : Array (Option Value)} {N ps : List Str} {sp : Sp} (lk : K.lookup f = some ⟨oc, od, .func (PySem.W.fnOf name qual params body scope dV kV doc pm an cdv ct), osl⟩) (hcd : PySem.W.codeIn K cdv qual = true) (S : FnScope N ps scope)
    (len : ∀ vs H Q E, sp vs H Q E → vs.length = ps.length)
    (hbody : ∀ (A : Around) (outer : List Env) (s : Shared) (H : Hp) (vs : List V) (Q : VK) (E : XK), Room k (A.deeper (envOfC qual scope s.heap.objs.size f cdv)) → sp vs H Q E →
      ∃ t, PSs (cxOf CX P w K mg base N qual scope f cdv A outer s H E) body t ∧ t { nx := fun _ H' => Q .non H', rt := Q } (start N vs) H) :
    FnOk P w K mg base CX (k + 1) f (PySem.W.fnOf name qual params body scope dV kV doc pm an cdv ct) ps sp := by
  refine ⟨len, fun A outer s H args us vs Q E hr e0 hb r hsp => ?_⟩
  have hl := len _ _ _ _ hsp
  have KX : K.In s.heap := e0.mod.kin.keeps fun b o e => (e0.bs b o e).1
  have lim : s.heap.NoLimit := e0.mod.nolimit.keeps fun b o e => (e0.bs b o e).1
  have hkind : ∀ y ∈ ps.zip us, scope.names.lookup y.1 = some .local ∨ (scope.names.lookup y.1 = some .cell ∧ ((cellsFrom (s.heap.objs.size + 1) scope.names []).lookup y.1).isSome = true) := fun ⟨n, v⟩ hy => by
    rcases S.par n (List.of_mem_zip hy).1 with q | q
    · exact .inl q
    · exact .inr ⟨q, PySem.W.cellsFrom_some _ _ _ (.inl q)⟩
  refine codeAny_call_function hr.depth (KX _ _ lk) rfl S.co S.gen rfl (PySem.W.codeRec_of KX hcd) (hb _ _ _ _ ?_)
  refine wpAny_newFunctionEnv_cells S.kind hkind fun env he s1 x => ?_
  subst he
  refine ⟨lim.keeps x.toInCall.keep, codeAny_func ?_⟩
  obtain ⟨t, ht, hq⟩ := hbody A outer s H vs Q E (hr.deeper _) hsp
  have I : Inv (cxOf CX P w K mg base N qual scope f cdv A outer s H E) [] (start N vs) H s1 := inv_start S hr.hd e0 hl r x
  refine wpAny_mono (ht [] s1 (start N vs) H _ I hq) (fun fl s' hs => ?_) fun e s' hs => hs
  have fin : ∀ {σ' : St} {H' : Hp} {v : V} {u : Value}, Inv (cxOf CX P w K mg base N qual scope f cdv A outer s H E) [] σ' H' s' → RelV v u → Q v H' → CE outer P w H s Q u s' :=
    fun {σ' H' v u} J rv q => ⟨v, H', J.os, J.bare, J.base, J.hok, rv, q⟩
  cases fl with
  | ret u =>
    obtain ⟨v, σ', H', J, rv, q⟩ := hs
    exact fin J rv q
  | next =>
    obtain ⟨σ', H', J, q⟩ := hs
    exact fin (v := V.non) (u := Value.none) J rfl q
  | brk =>
    obtain ⟨_, _, _, q⟩ := hs
    exact False.elim q
  | cont =>
    obtain ⟨_, _, _, q⟩ := hs
    exact False.elim q
end L2

namespace L2
open PySem PySem.Spec PyProof.Rows
section
variable {X : Cx} {x : Str} {p pos : Pos} {e : Expr} {es : List Expr} {t : TA} {id T : String} {r : List V → Hp → VK → Prop}

def tCB (r : List V → Hp → VK → Prop) (t : TA) : TE := fun σ H Q => t σ H fun vs H1 => r vs H1 Q
/-- f(e, ..), f a built-in function -/
theorem pe_callB (hc : CallR X (.builtin id) r) (hg : Gl X x) (hm : X.mg x = none) (hv : bootBuiltins x = some (.builtin id)) (ha : PA X (e :: es) t) (hn : x ≠ "__name__" := by decide) (hdb : (x == ("__debug__" : Str)) = false := by decide)
    (he : starEach (e :: es) X.env = (false, eval e X.env) :: starEach es X.env := by rfl) (hpl : (backTo pos (starEach es X.env)).any (·.1) = false := by rfl) : PE X (.Call (.Name x p) (e :: es) [] pos) (tCB r t) := by
  intro pins s σ H Q I h
  refine wpAny_Call_Name_kw (ld_blt I hg hm hv ?_ hn hdb)
  exact PyProof.Rows.callWith_builtin1 (thn (ha pos pins s σ H _ I h) fun us s1 ⟨vs, H1, I1, r1, q1⟩ => hc pins s1 σ H1 vs us Q I1 r1 q1) he hpl
/-- T(e, ..), T a built-in type -/
theorem pe_callTy (hc : CallR X (.type T) r) (hg : Gl X x) (hm : X.mg x = none) (hv : bootBuiltins x = some (.type T)) (ha : PA X (e :: es) t) (hn : x ≠ "__name__" := by decide) (hdb : (x == ("__debug__" : Str)) = false := by decide)
    (he : starEach (e :: es) X.env = (false, eval e X.env) :: starEach es X.env := by rfl) (hpl : (backTo pos (starEach es X.env)).any (·.1) = false := by rfl) : PE X (.Call (.Name x p) (e :: es) [] pos) (tCB r t) := by
  intro pins s σ H Q I h
  refine wpAny_Call_Name_kw (ld_blt I hg hm hv ?_ hn hdb)
  exact PyProof.Rows.callWith_type1 (thn (ha pos pins s σ H _ I h) fun us s1 ⟨vs, H1, I1, r1, q1⟩ => hc pins s1 σ H1 vs us Q I1 r1 q1) he hpl
/-- T() -/
theorem pe_callTy0 (hc : CallR X (.type T) r) (hg : Gl X x) (hm : X.mg x = none) (hv : bootBuiltins x = some (.type T)) (hn : x ≠ "__name__" := by decide) (hdb : (x == ("__debug__" : Str)) = false := by decide) :
    PE X (.Call (.Name x p) [] [] pos) (tCB r tNil) := by
  intro pins s σ H Q I h
  refine wpAny_Call_Name_kw (ld_blt I hg hm hv ?_ hn hdb)
  exact PyProof.Rows.callWith_type0 (hc pins s σ H [] [] Q I .nil h)
end
end L2

namespace HT
open PySem PyProof.Rows

/-- t < u of tuples of ints -/
def lexLt : List Int → List Int → Bool
  | [], [] => false
  | [], _ :: _ => true
  | _ :: _, [] => false
  | x :: xs, y :: ys => if x = y then lexLt xs ys else decide (x < y)
theorem lexLt_cons (x y : Int) (xs ys : List Int) : lexLt (x :: xs) (y :: ys) = if x = y then lexLt xs ys else decide (x < y) := rfl
theorem lexLt_nil_nil : lexLt [] [] = false := rfl
theorem lexLt_nil_cons (y : Int) (ys : List Int) : lexLt [] (y :: ys) = true := rfl
theorem lexLt_cons_nil (x : Int) (xs : List Int) : lexLt (x :: xs) [] = false := rfl

theorem eqAt_int (A : Around) (s : Shared) (a : Int) (t : Tok) (c : Int) (u : Tok) : ∃ e, SeqAt.EqAt A s (.int a t) (.int c u) e ∧ (e = true ↔ a = c) :=
  ⟨(a == c), SeqAt.EqAt.int_int a t c u, by simp⟩
theorem rcLt_int (A : Around) (s : Shared) (a : Int) (t : Tok) (c : Int) (u : Tok) (prog : Program) (w : World) (E : Value → Shared → Prop) (Q : Value → Shared → Prop) (h : Q (.bool (decide (a < c))) s) :
    wpAny (model prog w) A (richCompare .Lt (.int a t) (.int c u)) Q E s :=
  (PyProof.Rows.lt_int h : wpAny (model prog w) A (compareOp .Lt (.int a t) (.int c u)) Q E s)

section
open PySem.SeqAt
open PySem.AutoSeq1 (wpAny_loadPart')
open PySem.MeetsSeq PySem.MeetsSeq2 PySem.MeetsSeq3

theorem tuple_lt_ints (l b : Addr) (items items2 : Array Value) (n n2 : Nat) (dd dd2 : Option Addr) (sl sl2 : Array (Option Value)) (ns ms : List Int) (hi : IntsAre items.toList ns) (hj : IntsAre items2.toList ms) :
    Meets (Builtin.«tuple.__lt__» ⟨[.ref l, .ref b], []⟩)
      (fun _ R s => s.heap.get? l = some { cls := .type "tuple", dict := dd, data := .seq items n, slots := sl } ∧ s.heap.get? b = some { cls := .type "tuple", dict := dd2, data := .seq items2 n2, slots := sl2 } ∧
        R (.ok (.ret (.bool (lexLt ns ms)))) s) :=
  .of_wp fun prog w A R s h => by
    obtain ⟨hp, g, d, tk, os⟩ := s; obtain ⟨hl, hb, h⟩ := h
    have f2 := AutoSeq1.sub_tuple_tuple
    have z1 : items.size = ns.length := by rw [← hi.length]; simp
    have z2 : items2.size = ms.length := by rw [← hj.length]; simp
    wp_walk using wpAny_loadPart' hl, wpAny_loadPart' hb, wpAny_forIn_list _ (fun rest b s' => b.1 = none ∧ s' = ⟨hp, g, d, tk, os⟩ ∧ ∃ (vs ws : List Value) (ns' ms' : List Int), rest = vs.zip ws ∧
      IntsAre vs ns' ∧ IntsAre ws ms' ∧ ns'.length + items2.size = ms'.length + items.size ∧ R (.ok (.ret (.bool (lexLt ns' ms')))) ⟨hp, g, d, tk, os⟩) _
    case turn =>
      rintro ⟨y, x⟩ rest b s' ⟨hb', rfl, vs, ws, ns', ms', hz, hvi, hwi, hlen, hR⟩
      cases hvi with
      | nil => rw [List.zip_nil_left] at hz; cases hz
      | cons a t hvi' =>
        cases hwi with
        | nil => rw [List.zip_nil_right] at hz; cases hz
        | cons c u hwi' =>
          rw [List.zip_cons_cons] at hz
          injection hz with hyx hrest
          injection hyx with hy hx
          subst hy hx
          rw [lexLt_cons] at hR
          simp only [List.length_cons] at hlen
          obtain ⟨e, he, hiff⟩ := eqAt_int A.in1 ⟨hp, g, d, tk, os⟩ a t c u
          refine wpAny_bind (he prog w _ _ ?_)
          cases e with
          | true =>
            rw [if_pos (hiff.mp rfl)] at hR
            wp_walk
            exact ⟨rfl, rfl, _, _, _, _, hrest, hvi', hwi', by omega, hR⟩
          | false =>
            rw [if_neg (fun q => absurd (hiff.mpr q) Bool.false_ne_true)] at hR
            have hri := rcLt_int A.in1 ⟨hp, g, d, tk, os⟩ a t c u prog w
            wp_walk using hri
            exact ⟨_, rfl, by simpa using hR⟩
    case fin =>
      rintro ⟨b1, b2⟩ s' ⟨hb', rfl, vs, ws, ns', ms', hz, hvi, hwi, hlen, hR⟩
      simp only at hb'
      subst hb'
      have hv : lexLt ns' ms' = decide (items.size < items2.size) := by
        cases hvi with
        | nil =>
          cases hwi with
          | nil =>
            simp only [List.length_nil] at hlen
            rw [lexLt_nil_nil]
            exact (decide_eq_false (by omega)).symm
          | cons c u hw =>
            simp only [List.length_nil, List.length_cons] at hlen
            rw [lexLt_nil_cons]
            exact (decide_eq_true (by omega)).symm
        | cons a t hv =>
          cases hwi with
          | nil =>
            simp only [List.length_nil, List.length_cons] at hlen
            rw [lexLt_cons_nil]
            exact (decide_eq_false (by omega)).symm
          | cons c u hw =>
            rw [List.zip_cons_cons] at hz
            cases hz
      rw [hv] at hR
      wp_walk
      exact ⟨_, rfl, by simpa [Builtin.Tuple.tupleCompareSizes] using hR⟩
    case h =>
      exact ⟨rfl, rfl, items.toList, items2.toList, ns, ms, rfl, hi, hj, by omega, h⟩
end

section
variable {prog : Program} {w : World} {A : Around} {E : Value → Shared → Prop} {s : Shared}

theorem lt_tupInts {l b : Addr} {items items2 : Array Value} {ns ms : List Int} {Q : Value → Shared → Prop} (hl : IsTup s.heap l items) (hb : IsTup s.heap b items2) (hi : IntsAre items.toList ns) (hj : IntsAre items2.toList ms)
    (hu : A.units < cLine) (h : Q (.bool (lexLt ns ms)) s) : wpAny (model prog w) A (compareOp .Lt (.ref l) (.ref b)) Q E s := by
  obtain ⟨⟨cls, dd, data, sl⟩, ho, hc, n, hd⟩ := id hl
  obtain ⟨⟨cls2, dd2, data2, sl2⟩, ho2, hc2, n2, hd2⟩ := id hb
  simp only at hc hd hc2 hd2
  subst hc hd hc2 hd2
  exact richCompare_meets_room (op := .Lt) ⟨_, ho, rfl⟩ ⟨_, ho2, rfl⟩ PySem.F.slot_tuple_lt PySem.F.entry_tuple_lt (PySem.F.args_tuple_lt_2 _ _) (tuple_lt_ints l b items items2 n n2 dd dd2 sl sl2 ns ms hi hj)
    ⟨ho, ho2, show Value.bool (lexLt ns ms) ≠ Value.notImplemented ∧ Q (.bool (lexLt ns ms)) s from ⟨(fun x => nomatch x), h⟩⟩ hu

/-- t + u, t not empty -/
theorem cat_tup {t b : Addr} {vs ws : List Value} {Q : Value → Shared → Prop} (ht : IsTup s.heap t vs.toArray) (hb : IsTup s.heap b ws.toArray) (hv : vs ≠ [])
    (h1 : ws = [] → Q (.ref t) s) (h2 : ws ≠ [] → Q (.ref s.heap.objs.size) { s with heap := s.heap.push { cls := .type "tuple", data := .seq (vs ++ ws).toArray } })
    (hsz : vs.length + ws.length ≤ sizeLine) : wpAny (model prog w) A (binaryOp .Add (.ref t) (.ref b)) Q E s := by
  obtain ⟨⟨cls, dd, data, sl⟩, ho, hc, n, hd⟩ := id ht
  obtain ⟨⟨cls2, dd2, data2, sl2⟩, ho2, hc2, n2, hd2⟩ := id hb
  simp only at hc hd hc2 hd2
  subst hc hd hc2 hd2
  have e : vs.toArray ++ ws.toArray = (vs ++ ws).toArray := by simp
  by_cases hw : ws = []
  · exact concat_meets ⟨_, ho, rfl⟩ ⟨_, ho2, rfl⟩ noFill_tuple_add seq_tuple_add PySem.F.slot_tuple_add PySem.F.entry_tuple_add (PySem.F.args_tuple_add_2 _ _)
      (tuple_addW1 t b vs.toArray ws.toArray n n2 dd dd2 sl sl2 (by simpa using hv) (by simp [hw])) ⟨ho, ho2, h1 hw⟩
  · refine concat_meets ⟨_, ho, rfl⟩ ⟨_, ho2, rfl⟩ noFill_tuple_add seq_tuple_add PySem.F.slot_tuple_add PySem.F.entry_tuple_add (PySem.F.args_tuple_add_2 _ _)
      (tuple_addW2 t b vs.toArray ws.toArray n n2 dd dd2 sl sl2 (by simpa using hv) (by simpa using hw) (by rw [List.size_toArray, List.size_toArray]; exact hsz)) ⟨ho, ho2, ?_⟩
    rw [e]
    exact h2 hw

/-! ### t[a:b], not the whole -/
/-- a slice's bound as a place among n (d where it is left out) -/
def sIx (n d : Nat) : Option Int → Nat
  | none => d
  | some v => if v < 0 then (v + (n : Int)).toNat else min v.toNat n
theorem sIx_none (n d : Nat) : sIx n d none = d := rfl
theorem sIx_nat (n d k : Nat) : sIx n d (some (k : Int)) = min k n := by
  show (if (k : Int) < 0 then ((k : Int) + (n : Int)).toNat else min (k : Int).toNat n) = min k n
  rw [if_neg (by omega), Int.toNat_natCast]
theorem sIx_le (n d : Nat) (hd : d ≤ n) (o : Option Int) : sIx n d o ≤ n := by
  cases o with
  | none => exact hd
  | some v =>
    show (if v < 0 then (v + (n : Int)).toNat else min v.toNat n) ≤ n
    by_cases hv : v < 0
    · rw [if_pos hv]; omega
    · rw [if_neg hv]; exact Nat.min_le_right _ _
theorem clip_eq (v : Int) (n d : Nat) : (if v < 0 then max (v + (n : Int)) 0 else min v (n : Int)) = ((sIx n d (some v) : Nat) : Int) := by
  show (if v < 0 then max (v + (n : Int)) 0 else min v (n : Int)) = (((if v < 0 then (v + (n : Int)).toNat else min v.toNat n) : Nat) : Int)
  by_cases hv : v < 0
  · simp only [if_pos hv]; omega
  · simp only [if_neg hv]; omega
theorem adjust_gen (lo hi : Option Int) (n : Nat) : Builtin.Slice.sliceAdjust lo hi 1 (n : Int) = (((sIx n 0 lo : Nat) : Int), ((sIx n n hi : Nat) : Int)) := by
  have h1 : ¬ ((1 : Int) < 0) := by omega
  unfold Builtin.Slice.sliceAdjust
  simp only [h1, if_false]
  refine Prod.ext ?_ ?_
  · cases lo with
    | none => rfl
    | some v => exact clip_eq v n 0
  · cases hi with
    | none => rfl
    | some v => exact clip_eq v n n
theorem places_gen (i j : Nat) : Builtin.Slice.slicePlaces (i : Int) (j : Int) 1 = j - i := by
  unfold Builtin.Slice.slicePlaces
  have h1 : (1 : Int) > 0 := by omega
  simp only [h1, if_true, Int.ediv_one]
  split <;> omega
theorem slicePart_ {v : Value} {o : Option Int} {Q : Option Int → Shared → Prop} (p : IsPart v o) (h : Q o s) : wpAny (model prog w) A (Builtin.Slice.slicePartIndex v) Q E s := by
  cases p with
  | none => exact slicePart_none h
  | int i t => exact slicePart_int h
theorem sliceApplied_gen {sl : Addr} {vl vu : Value} {lo hi : Option Int} {n : Nat} {Q : Int × Int × Nat → Shared → Prop} (hs : s.heap.IsSliceOf sl vl vu .none) (pl : IsPart vl lo) (pu : IsPart vu hi)
    (h : Q (((sIx n 0 lo : Nat) : Int), 1, sIx n n hi - sIx n 0 lo) s) : wpAny (model prog w) A (Builtin.Slice.sliceApplied (.ref sl) (pure (n : Int))) Q E s := by
  obtain ⟨os, hos, hcs, hds⟩ := id hs
  unfold Builtin.Slice.sliceApplied Builtin.Slice.sliceFields
  refine wpAny_bind (wpAny_bind (wpAny_field hos hds (x := vl) rfl (wpAny_bind (wpAny_field hos hds (x := vu) rfl (wpAny_bind (wpAny_field hos hds (x := .none) rfl (wpAny_pure ?_)))))))
  refine wpAny_bind (slicePart_none ?_)
  show wpAny _ _ (if ((1 : Int) == 0) = true then _ else _) _ _ s
  rw [if_neg (by decide)]
  refine wpAny_bind (slicePart_ pl (wpAny_bind (slicePart_ pu (wpAny_bind (wpAny_pure ?_)))))
  show wpAny _ _ (match Builtin.Slice.sliceAdjust lo hi 1 (n : Int) with | (lo, hi) => pure (lo, (1 : Int), Builtin.Slice.slicePlaces lo hi 1)) _ _ s
  rw [adjust_gen lo hi n]
  show wpAny _ _ (pure (((sIx n 0 lo : Nat) : Int), (1 : Int), Builtin.Slice.slicePlaces ((sIx n 0 lo : Nat) : Int) ((sIx n n hi : Nat) : Int) 1)) _ _ s
  rw [places_gen]
  exact wpAny_pure h
theorem pick_gen (xs : Array Value) (i k : Nat) : ((List.range k).filterMap fun (m : Nat) => xs[((i : Int) + (m : Int) * 1).toNat]?).toArray = ((xs.toList.drop i).take k).toArray := by
  have e : (fun (m : Nat) => xs[((i : Int) + (m : Int) * 1).toNat]?) = fun m => xs[i + m]? := by
    funext m
    have : ((i : Int) + (m : Int) * 1).toNat = i + m := by omega
    rw [this]
  rw [e]
  have := pick_run xs i k
  rw [List.filterMap_map] at this
  have e2 : ((fun x => xs[x]?) ∘ fun x => i + x) = fun m => xs[i + m]? := rfl
  rw [e2] at this
  rw [this]

theorem getItem_tuple_cut {t sl : Addr} {items : Array Value} {vl vu : Value} {lo hi : Option Int} {Q : Value → Shared → Prop} (ht : IsTup s.heap t items) (hs : s.heap.IsSliceOf sl vl vu .none) (pl : IsPart vl lo) (pu : IsPart vu hi)
    (hw : ¬ (sIx items.size 0 lo = 0 ∧ sIx items.size items.size hi = items.size))
    (h : Q (.ref s.heap.objs.size) { s with heap := s.heap.push { cls := .type "tuple", data := .seq ((items.toList.drop (sIx items.size 0 lo)).take (sIx items.size items.size hi - sIx items.size 0 lo)).toArray } })
    (hsz : items.size ≤ sizeLine) : wpAny (model prog w) A (getItem (.ref t) (.ref sl)) Q E s := by
  have htake : sizeOk (.seq ((items.toList.drop (sIx items.size 0 lo)).take (sIx items.size items.size hi - sIx items.size 0 lo)).toArray) := by
    show ((items.toList.drop (sIx items.size 0 lo)).take (sIx items.size items.size hi - sIx items.size 0 lo)).toArray.size ≤ sizeLine
    rw [List.size_toArray, List.length_take, List.length_drop, Array.length_toList]
    omega
  have hj : sIx items.size items.size hi ≤ items.size := sIx_le _ _ (Nat.le_refl _) hi
  obtain ⟨os, hos, hcs, hds⟩ := id hs
  have hTs : s.TypeIs (.ref sl) "slice" := ⟨os, hos, hcs⟩
  unfold getItem
  try with_reducible refine wpAny_holding ?_
  first | refine wpAny_bind (wpAny_pure ?_) | skip
  refine wpAny_bind (wpAny_sequenceKey ht.typeIs (by decide) ?_)
  refine wpAny_bind (wpAny_callSpecial?_slot (name := Str.ofString "__getitem__") ht.typeIs PyProof.Rows.slot_tuple_getitem
    (wpAny_call_entry PyProof.Rows.slot_tuple_getitem ht.typeIs entry_tuple_getitem ?_ (args_tuple_getitem _ _)))
  show wpAny _ _ (Builtin.Tuple.tupleItemsOf (.ref t) >>= _) _ _ s
  refine wpAny_bind (tupleItemsOf_ ht ?_)
  refine wpAny_bind (wpAny_typeOf hTs ?_)
  rw [if_pos (by decide)]
  refine wpAny_bind (sliceApplied_gen hs pl pu ?_)
  have hno : ¬ ((((sIx items.size 0 lo : Nat) : Int) == 0 && (1 : Int) == 1 && (sIx items.size items.size hi - sIx items.size 0 lo) == items.size) = true) := by
    intro q
    rw [Bool.and_eq_true, Bool.and_eq_true] at q
    have q1 : ((sIx items.size 0 lo : Nat) : Int) = 0 := eq_of_beq q.1.1
    have q2 : sIx items.size items.size hi - sIx items.size 0 lo = items.size := eq_of_beq q.2
    exact hw ⟨by omega, by omega⟩
  show wpAny _ _ (if (((sIx items.size 0 lo : Nat) : Int) == 0 && (1 : Int) == 1 && (sIx items.size items.size hi - sIx items.size 0 lo) == items.size) = true then _ else _) _ _ s
  rw [if_neg hno, pick_gen]
  first
    | exact wpAny_bind (m := Builtin.Tuple.tupleExact _) (wpAny_newObj_type (wpAny_pure ⟨_, rfl, wpAny_pure h⟩) htake)
    | exact wpAny_bind (m := Builtin.Tuple.tupleExact _) (wpAny_newObj_type (wpAny_bind (wpAny_pure (wpAny_pure ⟨_, rfl, wpAny_pure h⟩))) htake)
    | exact wpAny_bind (wpAny_bind (m := Builtin.Tuple.tupleExact _) (wpAny_newObj_type (wpAny_pure (wpAny_pure ⟨_, rfl, wpAny_pure h⟩)) htake))
    | exact wpAny_bind (wpAny_bind (m := Builtin.Tuple.tupleExact _) (wpAny_newObj_type (wpAny_pure ⟨_, rfl, wpAny_pure h⟩) htake))
end
end HT

namespace L2
open PySem PySem.Spec PyProof.Rows

/-! ### the parts of a slice -/
abbrev TO := St → Hp → (Option Int → Hp → Prop) → Prop
/-- a slice's part (left out, or an int) -/
def PO (X : Cx) (e : Option Expr) (t : TO) : Prop :=
  ∀ (pins : List (Addr × Obj)) (s : Shared) (σ : St) (H : Hp) (Q : Option Int → Hp → Prop), Inv X pins σ H s → t σ H Q →
    wpAny (model X.prog X.w) X.A (evalPart e X.env) (fun u s' => ∃ o H', Inv X pins σ H' s' ∧ IsPart u o ∧ Q o H') X.xe s
def tNoPart : TO := fun _ H Q => Q none H
def tPart (t : TE) : TO := fun σ H Q => t σ H fun x H1 => ∃ i, x = .int i ∧ Q (some i) H1

theorem intsAre_of {ns : List Int} : ∀ {us : List Value}, Vals (ns.map V.int) us → IntsAre us ns := by
  induction ns with
  | nil => intro us r; rw [List.map_nil] at r; cases r; exact .nil
  | cons n ns ih =>
    intro us r
    rw [List.map_cons] at r
    cases r with
    | cons r1 r2 =>
      obtain ⟨t, e⟩ := r1
      subst e
      exact .cons n t (ih r2)

section
variable {X : Cx} {e : Expr} {te : TE} {lo hi : Option Expr} {tl th : TO} {pos p2 : Pos}

theorem po_none : PO X none tNoPart := by
  intro pins s σ H Q I h
  rw [evalPart_none]
  exact wpAny_pure ⟨none, H, I, .none, h⟩
theorem po_some (h : PE X e te) : PO X (some e) (tPart te) := by
  intro pins s σ H Q I hw
  rw [evalPart_some]
  refine thn (h pins s σ H _ I hw) fun u s1 ⟨x, H1, I1, r1, q1⟩ => ?_
  obtain ⟨i, rfl, q⟩ := q1
  obtain ⟨t, rfl⟩ := r1
  exact ⟨some i, H1, I1, .int i t, q⟩

/-- what a slice of a value is, by values: the slice object stands at sl -/
def SlR (X : Cx) (r : V → Option Int → Option Int → Hp → VK → Prop) : Prop :=
  ∀ (pins : List (Addr × Obj)) (s : Shared) (σ : St) (H : Hp) (x : V) (v vl vu : Value) (lo hi : Option Int) (sl : Addr) (Q : VK), Inv X pins σ H s → RelV x v → s.heap.IsSliceOf sl vl vu .none → IsPart vl lo → IsPart vu hi → r x lo hi H Q →
    ∃ T id, typeLookup (.type T) "__getitem__" = pure (some (.builtin id)) ∧ s.TypeIs v T ∧ wpAny (model X.prog X.w) X.A (getItem v (.ref sl)) (EP X pins σ Q) X.xe s
theorem SlR.or {r r' : V → Option Int → Option Int → Hp → VK → Prop} (h : SlR X r) (h' : SlR X r') : SlR X (fun x lo hi H Q => r x lo hi H Q ∨ r' x lo hi H Q) := by
  intro pins s σ H x v vl vu lo hi sl Q I rx hs pl pu q
  rcases q with q | q
  · exact h pins s σ H x v vl vu lo hi sl Q I rx hs pl pu q
  · exact h' pins s σ H x v vl vu lo hi sl Q I rx hs pl pu q
def tSl (r : V → Option Int → Option Int → Hp → VK → Prop) (te : TE) (tl th : TO) : TE := fun σ H Q => te σ H fun x H1 => tl σ H1 fun l H2 => th σ H2 fun u H3 => r x l u H3 Q
/-- a[lo:hi], any a -/
theorem pe_slice {r : V → Option Int → Option Int → Hp → VK → Prop} (hr : SlR X r) (he : PE X e te) (hl : PO X lo tl) (hu : PO X hi th) : PE X (.Subscript e (.Slice lo hi none p2) pos) (tSl r te tl th) := by
  intro pins s σ H Q I h
  refine Subscript_ (thn (he pins s σ H _ I h) fun v s1 ⟨x, H1, I1, r1, q1⟩ => ?_)
  refine wpAny_Slice (thn (hl pins s1 σ H1 _ I1 q1) fun vl s2 ⟨l, H2, I2, pl, q2⟩ => thn (hu pins s2 σ H2 _ I2 q2) fun vu s3 ⟨u, H3, I3, pu, q3⟩ => ?_)
  rw [evalPart_none]
  refine wpAny_pure ?_
  have I4 : Inv X pins σ H3 { s3 with heap := s3.heap.push { cls := .type "slice", data := .fields #[vl, vu, .none] } } := I3.kept (t' := s3.toks) fun b ob q => Heap.get?_push_of_some _ q
  obtain ⟨T, id, hT, ht, hg⟩ := hr pins { s3 with heap := s3.heap.push { cls := .type "slice", data := .fields #[vl, vu, .none] } } σ H3 x v vl vu l u s3.heap.objs.size Q I4 r1 (Heap.IsSliceOf.new ..) pl pu q3
  show wpAny (model X.prog X.w) X.A (subscriptTail e (.Slice lo hi none p2) v (.ref s3.heap.objs.size)) (EP X pins σ Q) X.xe { s3 with heap := s3.heap.push { cls := .type "slice", data := .fields #[vl, vu, .none] } }
  exact tail_any (ops := [.ref s3.heap.objs.size, v]) ht hT hg (by with_unfolding_all rfl)

/-- the items of xs[lo:hi] -/
def cutV (xs : List V) (lo hi : Option Int) : List V := (xs.drop (HT.sIx xs.length 0 lo)).take (HT.sIx xs.length xs.length hi - HT.sIx xs.length 0 lo)
theorem cutV_length (xs : List V) (lo hi : Option Int) : (cutV xs lo hi).length ≤ xs.length := by
  unfold cutV
  rw [List.length_take, List.length_drop]
  omega
/-- t[lo:hi], not the whole of it (the whole would be t itself) -/
def rSlT (K : PySem.W.Frag) : V → Option Int → Option Int → Hp → VK → Prop := fun x lo hi H Q => ∃ a xs, x = .ref a ∧ SqT K H a xs ∧
  ¬ (HT.sIx xs.length 0 lo = 0 ∧ HT.sIx xs.length xs.length hi = xs.length) ∧ ∀ p, H p = none → Q (.ref p) (upd H p (.tup (cutV xs lo hi)))
theorem sl_tup : SlR X (rSlT X.K) := by
  intro pins s σ H x v vl vu lo hi sl Q I rx hs pl pu h
  obtain ⟨a, xs, rfl, hx, hw, q⟩ := h
  cases rx
  obtain ⟨its, r, ht, hz⟩ := I.tuple hx
  have hlen : its.toArray.size = xs.length := by rw [List.size_toArray]; exact r.length.symm
  refine ⟨"tuple", _, PyProof.Rows.slot_tuple_getitem.lookup, ht.typeIs, ?_⟩
  refine HT.getItem_tuple_cut ht hs pl pu (by rw [hlen]; exact hw) ?_ (by rw [hlen]; exact hz)
  rw [hlen]
  refine ⟨.ref s.heap.objs.size, _, I.laid (t' := s.toks) (o := .tup (cutV xs lo hi)) (fun b ob q => Heap.get?_push_of_some _ q) (Nat.le_refl _) ?_, rfl, q _ (I.hok.fresh (Nat.le_refl _))⟩
  exact ⟨Nat.le_trans (cutV_length xs lo hi) hz, _, (r.drop (HT.sIx xs.length 0 lo)).take (HT.sIx xs.length xs.length hi - HT.sIx xs.length 0 lo), IsTup.new _ _⟩

/-! ### t < u, t + u -/
def rLtT (K : PySem.W.Frag) : R2 := fun x y H Q => ∃ a b ns ms, x = .ref a ∧ y = .ref b ∧ SqT K H a (ns.map V.int) ∧ SqT K H b (ms.map V.int) ∧ Q (.bl (HT.lexLt ns ms)) H
theorem op_ltT (hu : X.A.units < cLine) : OpR X (compareOp .Lt) (rLtT X.K) := by
  intro pins s σ H x y v u Q I rx ry h
  obtain ⟨a, b, ns, ms, rfl, rfl, ha, hb, q⟩ := h
  cases rx
  cases ry
  obtain ⟨its, r1, p1, _⟩ := I.tuple ha
  obtain ⟨its2, r2, p2, _⟩ := I.tuple hb
  have i1 : IntsAre its.toArray.toList ns := intsAre_of r1
  have i2 : IntsAre its2.toArray.toList ms := intsAre_of r2
  exact HT.lt_tupInts p1 p2 i1 i2 hu ⟨.bl (HT.lexLt ns ms), H, I, rfl, q⟩
/-- t + u, t not empty: u empty gives t itself -/
def rCatT (K : PySem.W.Frag) : R2 := fun x y H Q => ∃ a b xs ys, x = .ref a ∧ y = .ref b ∧ SqT K H a xs ∧ SqT K H b ys ∧ xs ≠ [] ∧ xs.length + ys.length ≤ sizeLine ∧
  (ys = [] → Q (.ref a) H) ∧ (ys ≠ [] → ∀ p, H p = none → Q (.ref p) (upd H p (.tup (xs ++ ys))))
theorem Vals.nil_iff {xs : List V} {us : List Value} (r : Vals xs us) : us = [] ↔ xs = [] := by
  cases r with
  | nil => simp
  | cons _ _ => simp
theorem op_catT : OpR X (binaryOp .Add) (rCatT X.K) := by
  intro pins s σ H x y v u Q I rx ry h
  obtain ⟨a, b, xs, ys, rfl, rfl, ha, hb, hx, hz, q1, q2⟩ := h
  cases rx
  cases ry
  obtain ⟨its, r1, p1, _⟩ := I.tuple ha
  obtain ⟨its2, r2, p2, _⟩ := I.tuple hb
  refine HT.cat_tup p1 p2 (fun z => hx (r1.nil_iff.mp z)) (fun z => ⟨.ref a, H, I, rfl, q1 (r2.nil_iff.mp z)⟩) (fun z => ?_) (by rw [← r1.length, ← r2.length]; exact hz)
  refine ⟨.ref s.heap.objs.size, _, I.laid (t' := s.toks) (o := .tup (xs ++ ys)) (fun b ob q => Heap.get?_push_of_some _ q) (Nat.le_refl _) ?_, rfl, q2 (fun w => z (r2.nil_iff.mpr w)) _ (I.hok.fresh (Nat.le_refl _))⟩
  exact ⟨by rw [List.length_append]; exact hz, _, r1.append r2, IsTup.new _ _⟩
/-- tuple(t) -/
theorem call_tupleT : CallR X (.type "tuple") (fun xs H Q => ∃ a ys, xs = [.ref a] ∧ SqT X.K H a ys ∧ Q (.ref a) H) := by
  intro pins s σ H xs us Q I r h
  obtain ⟨a, ys, rfl, ha, q⟩ := h
  obtain ⟨u, rfl, ru⟩ := vals1 r
  cases ru
  obtain ⟨its, _, p1, _⟩ := I.tuple ha
  exact call_tuple_same (items := its.toArray) p1 ⟨.ref a, H, I, rfl, q⟩
end
end L2

namespace L2
open PySem PySem.Spec PyProof.Rows

/-! ### places -/
/-- the place that an index of any sign means -/
def ixN (n : Nat) (i : Int) : Option Nat := if 0 ≤ i then (if i < n then some i.toNat else none) else if -(n : Int) ≤ i then some (i + n).toNat else none
def atI {α : Type} (xs : List α) (i : Int) : Option α := (ixN xs.length i).bind fun j => xs[j]?
theorem ixN_seq {n : Nat} {i : Int} {j : Nat} (h : ixN n i = some j) : seqIndex? i n = some j ∧ j < n ∧ -(n : Int) ≤ i ∧ i < n := by
  unfold ixN at h
  by_cases h0 : 0 ≤ i
  · rw [if_pos h0] at h
    by_cases h1 : i < n
    · rw [if_pos h1] at h
      have e : i.toNat = j := Option.some.inj h
      exact ⟨by rw [seqIndex_of h0 h1, e], by omega, by omega, h1⟩
    · rw [if_neg h1] at h; cases h
  · rw [if_neg h0] at h
    by_cases h1 : -(n : Int) ≤ i
    · rw [if_pos h1] at h
      have e : (i + n).toNat = j := Option.some.inj h
      exact ⟨by rw [seqIndex_neg (by omega) h1, e], by omega, h1, by omega⟩
    · rw [if_neg h1] at h; cases h
theorem atI_get {α : Type} {xs : List α} {i : Int} {v : α} (h : atI xs i = some v) : ∃ j, seqIndex? i xs.length = some j ∧ xs[j]? = some v ∧ j < xs.length ∧ -(xs.length : Int) ≤ i ∧ i < xs.length := by
  unfold atI at h
  cases e : ixN xs.length i with
  | none => rw [e] at h; cases h
  | some j =>
    rw [e] at h
    obtain ⟨h1, h2, h3, h4⟩ := ixN_seq e
    exact ⟨j, h1, h, h2, h3, h4⟩
theorem atI_nat {α : Type} {xs : List α} {j : Nat} {v : α} (h : xs[j]? = some v) : atI xs (j : Int) = some v := by
  have hj : j < xs.length := (List.getElem?_eq_some_iff.mp h).1
  have e : ixN xs.length (j : Int) = some j := by
    unfold ixN
    rw [if_pos (by omega), if_pos (by omega)]; simp
  unfold atI; rw [e]; exact h
theorem atI_last {α : Type} (xs : List α) (v : α) : atI (xs ++ [v]) (-1) = some v := by
  have hl : (xs ++ [v]).length = xs.length + 1 := by simp
  have e : ixN (xs ++ [v]).length (-1) = some xs.length := by
    unfold ixN
    rw [hl, if_neg (by decide), if_pos (by omega)]
    congr 1
    omega
  unfold atI
  rw [e]
  show (xs ++ [v])[xs.length]? = some v
  simp

/-! ### what may be subscripted -/
/-- what stands as an index of a plain subscript -/
def PlainIx (b : Expr) : Prop := ∀ o i, subscripted b false o i = operate [o, i] (getItem o i)
/-- a subscript by values -/
def IxR (X : Cx) (r : R2) : Prop :=
  ∀ (value slice : Expr) (pins : List (Addr × Obj)) (s : Shared) (σ : St) (H : Hp) (x y : V) (v u : Value) (Q : VK), Inv X pins σ H s → RelV x v → RelV y u → r x y H Q →
    subscripted slice false v u = operate [v, u] (getItem v u) → wpAny (model X.prog X.w) X.A (subscriptTail value slice v u) (EP X pins σ Q) X.xe s
/-- a call of a builtin's method by values: the receiver, the arguments -/
def MtR (X : Cx) (id : String) (r : V → List V → Hp → VK → Prop) : Prop :=
  ∀ (pins : List (Addr × Obj)) (s : Shared) (σ : St) (H : Hp) (x : V) (xs : List V) (v : Value) (us : List Value) (Q : VK), Inv X pins σ H s → RelV x v → Vals xs us → r x xs H Q →
    wpAny (model X.prog X.w) X.A (call (.builtin id) (v :: us)) (EP X pins σ Q) X.xe s
section
variable {X : Cx} {a b : Expr} {ta tb : TE} {pos : Pos}
theorem IxR.or {r r' : R2} (h : IxR X r) (h' : IxR X r') : IxR X (fun x y H Q => r x y H Q ∨ r' x y H Q) := by
  intro value slice pins s σ H x y v u Q I rx ry q hs
  rcases q with q | q
  · exact h value slice pins s σ H x y v u Q I rx ry q hs
  · exact h' value slice pins s σ H x y v u Q I rx ry q hs
theorem MtR.or {id : String} {r r' : V → List V → Hp → VK → Prop} (h : MtR X id r) (h' : MtR X id r') : MtR X id (fun x xs H Q => r x xs H Q ∨ r' x xs H Q) := by
  intro pins s σ H x xs v us Q I rx rs q
  rcases q with q | q
  · exact h pins s σ H x xs v us Q I rx rs q
  · exact h' pins s σ H x xs v us Q I rx rs q
/-- a[b] -/
theorem pe_ix {r : R2} (hr : IxR X r) (ha : PE X a ta) (hb : PE X b tb) (hs : PlainIx b) : PE X (.Subscript a b pos) (tOp r ta tb) := by
  intro pins s σ H Q I h
  exact Subscript_ (binT ha hb I h fun v u s2 x y H2 I2 rx ry q => hr a b pins s2 σ H2 x y v u Q I2 rx ry q (hs _ _))

def rIxL (K : PySem.W.Frag) : R2 := fun x y H Q => ∃ p xs i v, x = .ref p ∧ y = .int i ∧ SqL K H p xs ∧ atI xs i = some v ∧ Q v H
def rIxT (K : PySem.W.Frag) : R2 := fun x y H Q => ∃ p xs i v, x = .ref p ∧ y = .int i ∧ SqT K H p xs ∧ atI xs i = some v ∧ Q v H
def rIxS : R2 := fun x y H Q => ∃ z i c, x = .str z ∧ y = .int i ∧ z.length ≤ sizeLine ∧ atI z.cps.toList i = some c ∧ Q (.str ⟨#[c]⟩) H
theorem ix_list : IxR X (rIxL X.K) := by
  intro value slice pins s σ H x y v u Q I rx ry h hs
  obtain ⟨p, xs, i, z, rfl, rfl, hq, he, q⟩ := h
  cases rx
  obtain ⟨t, rfl⟩ := ry
  obtain ⟨its, r, pl, hz⟩ := I.list hq
  obtain ⟨j, h1, h2, h3, h4, h5⟩ := atI_get he
  obtain ⟨w, ew, rw'⟩ := r.get h2
  have hl := r.length
  have hn := line63
  have fin : EP X pins σ Q w s := ⟨z, H, I, rw', q⟩
  by_cases h0 : 0 ≤ i
  · have hj : i.toNat = j := by
      rw [seqIndex_of h0 h5] at h1
      exact Option.some.inj h1
    exact item_listR pl.isList h0 (by omega) (by rw [hj]; simpa using ew) fin hs
  · have hj : (i + (its.toArray.size : Int)).toNat = j := by
      rw [seqIndex_neg (by omega) h4] at h1
      rw [List.size_toArray, ← hl]
      exact Option.some.inj h1
    exact subscriptTail_builtinR (x := w) pl.isList.typeIs slot_list_getitem.lookup
      (wpAny_getItem_list_neg (Q := fun r s' => r = w ∧ EP X pins σ Q r s') pl.isList (by omega) (by rw [List.size_toArray] <;> omega) (by omega) (by rw [hj]; simpa using ew) ⟨rfl, fin⟩) hs
theorem ix_tup : IxR X (rIxT X.K) := by
  intro value slice pins s σ H x y v u Q I rx ry h hs
  obtain ⟨p, xs, i, z, rfl, rfl, hq, he, q⟩ := h
  cases rx
  obtain ⟨t, rfl⟩ := ry
  obtain ⟨its, r, pl, hz⟩ := I.tuple hq
  obtain ⟨j, h1, h2, h3, h4, h5⟩ := atI_get he
  obtain ⟨w, ew, rw'⟩ := r.get h2
  have hl := r.length
  have hn := line63
  have fin : EP X pins σ Q w s := ⟨z, H, I, rw', q⟩
  exact subscriptTail_builtinR (x := w) pl.typeIs slot_tuple_getitem.lookup
    (getItem_tuple (j := j) (Q := fun r s' => r = w ∧ EP X pins σ Q r s') pl (by omega) (by omega) (by rw [List.size_toArray, ← hl]; exact h1) (by simpa using ew) ⟨rfl, fin⟩) hs
theorem ix_str : IxR X rIxS := by
  intro value slice pins s σ H x y v u Q I rx ry h hs
  obtain ⟨z, i, c, rfl, rfl, hz, he, q⟩ := h
  obtain ⟨t, rfl⟩ := rx
  obtain ⟨t', rfl⟩ := ry
  obtain ⟨j, h1, h2, h3, h4, h5⟩ := atI_get he
  have hl : z.cps.toList.length = z.length := by simp [Str.length]
  rw [hl] at h1 h4 h5
  have hn := line63
  exact tail_any (typeIs_str s z t) slot_str_getitem.lookup (getItem_str (c := c) (by
    have e1 : decide (i < -(2 ^ 63 : Int)) = false := decide_eq_false (by omega)
    have e2 : decide (i ≥ 2 ^ 63) = false := decide_eq_false (by omega)
    rw [e1, e2, Bool.or_false]) (by rw [h1]; simpa using h2) ⟨.str ⟨#[c]⟩, H, I.tok _, ⟨_, rfl⟩, q⟩) hs
/-- list, tuple or str -/
def rIx (K : PySem.W.Frag) : R2 := fun x y H Q => rIxL K x y H Q ∨ rIxT K x y H Q ∨ rIxS x y H Q
theorem ix_seq : IxR X (rIx X.K) := ix_list.or (ix_tup.or ix_str)

/-! ### xs[i] = v, any sign -/
/-- the list's object behind a store -/
theorem mapSeq_set (its : List Value) (n j : Nat) (u : Value) : Obj.mapSeq (·.setIfInBounds j u) { cls := .type "list", data := .seq its.toArray n } = { cls := .type "list", data := .seq (its.set j u).toArray n } := by
  simp [Obj.mapSeq]
theorem Inv.lst {pins : List (Addr × Obj)} {σ : St} {H : Hp} {s : Shared} {p : Addr} {xs : List V} (I : Inv X pins σ H s) (h : H p = some (.lst xs)) :
    ∃ (its : List Value) (n : Nat), Vals xs its ∧ s.heap.get? p = some { cls := .type "list", data := .seq its.toArray n } ∧ xs.length ≤ sizeLine := by
  obtain ⟨z, its, n, r, e⟩ := I.hok p _ h
  exact ⟨its, n, r, e, z⟩
/-- the list at p is written by an update of its object -/
theorem Inv.lstUpd {pins : List (Addr × Obj)} {σ : St} {H : Hp} {s : Shared} {p : Addr} {xs ys : List V} {its its' : List Value} {n n' : Nat} {f : Obj → Obj} (I : Inv X pins σ H s) (h : H p = some (.lst xs))
    (ho : s.heap.get? p = some { cls := .type "list", data := .seq its.toArray n }) (hf : f { cls := .type "list", data := .seq its.toArray n } = { cls := .type "list", data := .seq its'.toArray n' }) (r : Vals ys its') (hz : ys.length ≤ sizeLine) (t : Nat) :
    Inv X pins σ (upd H p (.lst ys)) { s with heap := s.heap.update p f, toks := t } := by
  have e : (s.heap.update p f).get? p = some { cls := .type "list", data := .seq its'.toArray n' } := by
    rw [Heap.get?_update_self f ho (by rw [hf] <;> rfl), hf]
  refine I.write (x := p) (e := p) (by rw [h]; trivial) (.inl rfl) (fun b u hb q => (Heap.get?_update_other _ _ (Ne.symm hb)).trans q) ⟨_, e⟩ ?_
  exact ⟨hz, its', n', r, e⟩
def rSetL : V → V → V → Hp → (Hp → Prop) → Prop := fun o i v H Q => ∃ p xs k j, o = .ref p ∧ i = .int k ∧ H p = some (.lst xs) ∧ ixN xs.length k = some j ∧ Q (upd H p (.lst (xs.set j v)))
theorem set_list : PSet X rSetL := by
  intro pins s σ H o i v ov iv u Q I ro ri rv h
  obtain ⟨p, xs, k, j, rfl, rfl, hp, hj, q⟩ := h
  cases ro
  obtain ⟨t, rfl⟩ := ri
  obtain ⟨its, n, r, ho, hz⟩ := I.lst hp
  obtain ⟨h1, h2, h3, h4⟩ := ixN_seq hj
  have hl := r.length
  have hn := line63
  have I' : Inv X pins σ (upd H p (.lst (xs.set j v))) { s with heap := s.heap.update p (Obj.mapSeq (·.setIfInBounds j u)) } :=
    I.lstUpd hp ho (mapSeq_set its n j u) (r.set rv j) (by rw [List.length_set]; exact hz) s.toks
  by_cases h0 : 0 ≤ k
  · have hk : k.toNat = j := by
      rw [seqIndex_of h0 h4] at h1
      exact Option.some.inj h1
    exact PySem.W.ki_setAt ho h0 (by omega) (by rw [List.size_toArray, ← hl]; exact h4) (by rw [hk]; exact ⟨_, I', q⟩)
  · have hk : (k + (its.toArray.size : Int)).toNat = j := by
      rw [seqIndex_neg (by omega) h3] at h1
      rw [List.size_toArray, ← hl]
      exact Option.some.inj h1
    exact PySem.W.ki_setBack ho (by omega) (by rw [List.size_toArray, ← hl]; exact h3) (by omega) (by rw [hk]; exact ⟨_, I', q⟩)

/-! ### slices -/
theorem slice_bounds (lo hi : Option Int) (n : Nat) : (sliceBounds lo hi none n).1 = ((HT.sIx n 0 lo : Nat) : Int) ∧ (sliceBounds lo hi none n).2.1 = ((HT.sIx n n hi : Nat) : Int) ∧ (sliceBounds lo hi none n).2.2 = 1 := by
  refine ⟨?_, ?_, rfl⟩
  · cases lo with
    | none => simp [sliceBounds, HT.sIx]
    | some i =>
      simp only [sliceBounds, HT.sIx, Option.getD_none, show (1 : Int) > 0 by decide, if_true]
      by_cases h : i < 0
      · simp only [h, if_true] <;> omega
      · simp only [h, if_false] <;> omega
  · cases hi with
    | none => simp [sliceBounds, HT.sIx]
    | some i =>
      simp only [sliceBounds, HT.sIx, Option.getD_none, show (1 : Int) > 0 by decide, if_true]
      by_cases h : i < 0
      · simp only [h, if_true] <;> omega
      · simp only [h, if_false] <;> omega
theorem slicePick_cut (its : List Value) (lo hi : Option Int) : slicePick its.toArray lo hi none = ((its.drop (HT.sIx its.length 0 lo)).take (HT.sIx its.length its.length hi - HT.sIx its.length 0 lo)).toArray := by
  obtain ⟨h1, h2, h3⟩ := slice_bounds lo hi its.toArray.size
  unfold slicePick
  rw [h1, h2, h3]
  simp only [sliceRange_one, pick_run, List.size_toArray] <;> rfl
/-- xs[lo:hi] of a list: a new list -/
def rSlL (K : PySem.W.Frag) : V → Option Int → Option Int → Hp → VK → Prop := fun x lo hi H Q => ∃ a xs, x = .ref a ∧ SqL K H a xs ∧ ∀ p, H p = none → Q (.ref p) (upd H p (.lst (cutV xs lo hi)))
theorem sl_list : SlR X (rSlL X.K) := by
  intro pins s σ H x v vl vu lo hi sl Q I rx hs pl pu h
  obtain ⟨a, xs, rfl, hx, q⟩ := h
  cases rx
  obtain ⟨its, r, ht, hz⟩ := I.list hx
  have hlen := r.length
  refine ⟨"list", _, slot_list_getitem.lookup, ht.isList.typeIs, ?_⟩
  refine wpAny_getItem_list_slice ht.isList hs pl pu .none (by simp) ?_ (by rw [List.size_toArray] <;> omega)
  rw [slicePick_cut, ← hlen]
  refine ⟨.ref s.heap.objs.size, _, I.laid (t' := s.toks) (o := .lst (cutV xs lo hi)) (fun b ob q => Heap.get?_push_of_some _ q) (Nat.le_refl _) ?_, rfl, q _ (I.hok.fresh (Nat.le_refl _))⟩
  exact ⟨Nat.le_trans (cutV_length xs lo hi) hz, _, 0, (r.drop (HT.sIx xs.length 0 lo)).take (HT.sIx xs.length xs.length hi - HT.sIx xs.length 0 lo), Heap.get?_push_size _ rfl⟩

/-! ### in, not in: flat items -/
def flatV : V → Bool
  | .non => true
  | .bl _ => true
  | .int _ => true
  | .str _ => true
  | _ => false
/-- == of flat values -/
def eqV : V → V → Bool
  | .non, .non => true
  | .bl a, .bl b => a == b
  | .bl a, .int b => (if a then 1 else 0) == b
  | .int a, .bl b => a == (if b then 1 else 0)
  | .int a, .int b => a == b
  | .str a, .str b => a == b
  | _, _ => false
theorem eqAt_V {A : Around} {s : Shared} {y x : V} {u v : Value} (ry : RelV y u) (rx : RelV x v) (fy : flatV y = true) (fx : flatV x = true) : SeqAt.EqAt A s u v (eqV y x) := by
  cases y with
  | non =>
    cases ry
    cases x with
    | non => cases rx; exact SeqAt.EqAt.same _
    | bl b => cases rx; exact SeqAt.EqAt.none_bool b
    | int b => obtain ⟨t, rfl⟩ := rx; exact SeqAt.EqAt.none_int b t
    | str b => obtain ⟨t, rfl⟩ := rx; exact SeqAt.EqAt.none_str b t
    | _ => exact absurd (show false = true from fx) Bool.false_ne_true
  | bl a =>
    cases ry
    cases x with
    | non => cases rx; exact SeqAt.EqAt.bool_none a
    | bl b => cases rx; exact SeqAt.EqAt.bool_bool a b
    | int b => obtain ⟨t, rfl⟩ := rx; exact SeqAt.EqAt.bool_int a b t
    | str b => obtain ⟨t, rfl⟩ := rx; exact SeqAt.EqAt.bool_str a b t
    | _ => exact absurd (show false = true from fx) Bool.false_ne_true
  | int a =>
    obtain ⟨t', rfl⟩ := ry
    cases x with
    | non => cases rx; exact SeqAt.EqAt.int_none a t'
    | bl b => cases rx; exact SeqAt.EqAt.int_bool a t' b
    | int b => obtain ⟨t, rfl⟩ := rx; exact SeqAt.EqAt.int_int a t' b t
    | str b => obtain ⟨t, rfl⟩ := rx; exact SeqAt.EqAt.int_str a t' b t
    | _ => exact absurd (show false = true from fx) Bool.false_ne_true
  | str a =>
    obtain ⟨t', rfl⟩ := ry
    cases x with
    | non => cases rx; exact SeqAt.EqAt.str_none a t'
    | bl b => cases rx; exact SeqAt.EqAt.str_bool a t' b
    | int b => obtain ⟨t, rfl⟩ := rx; exact SeqAt.EqAt.str_int a t' b t
    | str b => obtain ⟨t, rfl⟩ := rx; exact SeqAt.EqAt.str_str a t' b t
    | _ => exact absurd (show false = true from fx) Bool.false_ne_true
  | _ => exact absurd (show false = true from fy) Bool.false_ne_true
/-- the items' answers, read off the values (a value's own answer does not lean on its token) -/
def eqU (x : V) (u : Value) : Bool := match u with
  | .none => eqV .non x
  | .bool b => eqV (.bl b) x
  | .int i _ => eqV (.int i) x
  | .str z _ => eqV (.str z) x
  | _ => false
theorem eqU_of {x y : V} {u : Value} (r : RelV y u) (f : flatV y = true) : eqU x u = eqV y x := by
  cases y with
  | non => cases r; rfl
  | bl b => cases r; rfl
  | int i => obtain ⟨t, rfl⟩ := r; rfl
  | str z => obtain ⟨t, rfl⟩ := r; rfl
  | _ => exact absurd (show false = true from f) Bool.false_ne_true
theorem any_eqU {x : V} : ∀ {xs : List V} {us : List Value}, Vals xs us → xs.all flatV = true → us.any (eqU x) = xs.any fun y => eqV y x
  | _, _, .nil, _ => rfl
  | y :: xs, u :: us, .cons r t, f => by
    rw [List.all_cons, Bool.and_eq_true] at f
    rw [List.any_cons, List.any_cons, eqU_of r f.1, any_eqU t f.2]
theorem mem_eqAt {A : Around} {s : Shared} {x : V} {v : Value} (rx : RelV x v) (fx : flatV x = true) : ∀ {xs : List V} {us : List Value}, Vals xs us → xs.all flatV = true → ∀ u ∈ us, SeqAt.EqAt A s u v (eqU x u)
  | _, _, .nil, _ => fun u hu => by cases hu
  | y :: xs, u :: us, .cons r t, f => fun u' hu => by
    rw [List.all_cons, Bool.and_eq_true] at f
    rcases List.mem_cons.mp hu with rfl | hu
    · rw [eqU_of r f.1]; exact eqAt_V r rx f.1 fx
    · exact mem_eqAt rx fx t f.2 u' hu
def inV (x : V) (xs : List V) : Bool := xs.any fun y => eqV y x
/-- x in a list or tuple of flat items -/
def rIn (K : PySem.W.Frag) (neg : Bool) : R2 := fun x y H Q => ∃ p xs, y = .ref p ∧ (SqL K H p xs ∨ SqT K H p xs) ∧ flatV x = true ∧ xs.all flatV = true ∧ Q (.bl (if neg then !inV x xs else inV x xs)) H
theorem op_in_seq : OpR X (compareOp .In) (rIn X.K false) := by
  intro pins s σ H x y v u Q I rx ry h
  obtain ⟨p, xs, rfl, hq, fx, fs, q⟩ := h
  cases ry
  rcases hq with hq | hq
  · obtain ⟨its, r, pl, hz⟩ := I.list hq
    refine SeqAt.in_listAt (eqU x) pl.isList (fun w hw => mem_eqAt rx fx r fs w (by simpa using hw)) ⟨.bl _, H, I, rfl, ?_⟩
    rw [show its.toArray.any (eqU x) = its.any (eqU x) by simp, any_eqU r fs]
    exact q
  · obtain ⟨its, r, pl, hz⟩ := I.tuple hq
    refine SeqAt.in_tupleAt (eqU x) pl (fun w hw => mem_eqAt rx fx r fs w (by simpa using hw)) ⟨.bl _, H, I, rfl, ?_⟩
    rw [show its.toArray.any (eqU x) = its.any (eqU x) by simp, any_eqU r fs]
    exact q
theorem op_notIn_seq : OpR X (compareOp .NotIn) (rIn X.K true) := by
  intro pins s σ H x y v u Q I rx ry h
  obtain ⟨p, xs, rfl, hq, fx, fs, q⟩ := h
  cases ry
  rcases hq with hq | hq
  · obtain ⟨its, r, pl, hz⟩ := I.list hq
    refine SeqAt.notIn_listAt (eqU x) pl.isList (fun w hw => mem_eqAt rx fx r fs w (by simpa using hw)) ⟨.bl _, H, I, rfl, ?_⟩
    rw [show its.toArray.any (eqU x) = its.any (eqU x) by simp, any_eqU r fs]
    exact q
  · obtain ⟨its, r, pl, hz⟩ := I.tuple hq
    refine SeqAt.notIn_tupleAt (eqU x) pl (fun w hw => mem_eqAt rx fx r fs w (by simpa using hw)) ⟨.bl _, H, I, rfl, ?_⟩
    rw [show its.toArray.any (eqU x) = its.any (eqU x) by simp, any_eqU r fs]
    exact q
theorem op_notIn_str : OpR X (compareOp .NotIn) (fun x y H Q => ∃ i j, x = .str i ∧ y = .str j ∧ Q (.bl (!(!(Builtin.Str.occurrences j i 0 j.length 1).isEmpty))) H) := by
  intro pins s σ H x y v u Q I rx ry h
  obtain ⟨i, j, rfl, rfl, q⟩ := h
  obtain ⟨t, rfl⟩ := rx
  obtain ⟨t', rfl⟩ := ry
  exact notIn_str ⟨.bl _, H, I, rfl, q⟩

/-! ### len, list(x), tuple(x) of any list or tuple that is read -/
theorem call_len_seq : CallR X (.builtin "len") (fun xs H Q => ∃ p ys, xs = [.ref p] ∧ (SqL X.K H p ys ∨ SqT X.K H p ys) ∧ Q (.int ys.length) H) := by
  intro pins s σ H xs us Q I r h
  obtain ⟨p, ys, rfl, hq, q⟩ := h
  obtain ⟨u, rfl, rx⟩ := vals1 r
  cases rx
  have hn := line63
  rcases hq with hq | hq
  · obtain ⟨its, r', pl, hz⟩ := I.list hq
    have hlen := r'.length
    exact Calls.call_len_list pl.isList (by simp only [List.size_toArray] <;> omega) ⟨.int ys.length, H, I.tok _, ⟨s.toks + 1, by rw [List.size_toArray, hlen]⟩, q⟩
  · obtain ⟨its, r', pl, hz⟩ := I.tuple hq
    have hlen := r'.length
    exact len_tuple pl (by simp only [List.size_toArray] <;> omega) ⟨.int ys.length, H, I.tok _, ⟨s.toks + 1, by rw [List.size_toArray, hlen]⟩, q⟩
theorem call_len_str : CallR X (.builtin "len") (fun xs H Q => ∃ z, xs = [.str z] ∧ z.length ≤ sizeLine ∧ Q (.int z.length) H) := by
  intro pins s σ H xs us Q I r h
  obtain ⟨z, rfl, hz, q⟩ := h
  obtain ⟨u, rfl, t, rfl⟩ := vals1 r
  have hn := line63
  exact len_str (by omega) ⟨.int z.length, H, I.tok _, ⟨_, rfl⟩, q⟩
theorem CallR.or {f : Value} {r r' : List V → Hp → VK → Prop} (h : CallR X f r) (h' : CallR X f r') : CallR X f (fun xs H Q => r xs H Q ∨ r' xs H Q) := by
  intro pins s σ H xs us Q I rs q
  rcases q with q | q
  · exact h pins s σ H xs us Q I rs q
  · exact h' pins s σ H xs us Q I rs q
theorem call_list_of : CallR X (.type "list") (fun xs H Q => ∃ p ys, xs = [.ref p] ∧ (SqL X.K H p ys ∨ SqT X.K H p ys) ∧ ∀ l, H l = none → Q (.ref l) (upd H l (.lst ys))) := by
  intro pins s σ H xs us Q I r h
  obtain ⟨p, ys, rfl, hq, q⟩ := h
  obtain ⟨u, rfl, rx⟩ := vals1 r
  cases rx
  have fin : ∀ (its : List Value), Vals ys its → ys.length ≤ sizeLine → ∀ (h' : Heap) (c' : Nat), (∀ b o', s.heap.get? b = some o' → h'.get? b = some o') →
      h'.get? s.heap.objs.size = some { cls := .type "list", dict := none, data := .seq its.toArray c', slots := #[] } → EP X pins σ Q (.ref s.heap.objs.size) { s with heap := h' } := fun its r' hz h' c' kp e =>
    ⟨.ref s.heap.objs.size, _, I.laid (t' := s.toks) kp (Nat.le_refl _) (show ObjOk X.prog X.w _ h' _ (.lst ys) from ⟨hz, its, c', r', e⟩), rfl, q _ (I.hok.fresh (Nat.le_refl _))⟩
  rcases hq with hq | hq
  · obtain ⟨its, r', pl, hz⟩ := I.list hq
    have hlen := r'.length
    obtain ⟨o, ho, hc, n, hd⟩ := pl.isList
    exact call_list_seq p (.inl rfl) ho hc hd (fun h' c' kp e => fin its r' hz h' c' kp e) (by simp only [List.size_toArray] <;> omega)
  · obtain ⟨its, r', pl, hz⟩ := I.tuple hq
    have hlen := r'.length
    obtain ⟨o, ho, hc, n, hd⟩ := pl
    exact call_list_seq p (.inr rfl) ho hc hd (fun h' c' kp e => fin its r' hz h' c' kp e) (by simp only [List.size_toArray] <;> omega)
theorem call_tuple_of : CallR X (.type "tuple") (fun xs H Q => ∃ p ys, xs = [.ref p] ∧ ((SqL X.K H p ys ∧ ∀ l, H l = none → Q (.ref l) (upd H l (.tup ys))) ∨ (SqT X.K H p ys ∧ Q (.ref p) H))) := by
  intro pins s σ H xs us Q I r h
  obtain ⟨p, ys, rfl, h⟩ := h
  obtain ⟨u, rfl, rx⟩ := vals1 r
  cases rx
  rcases h with ⟨hq, q⟩ | ⟨hq, q⟩
  · obtain ⟨its, r', pl, hz⟩ := I.list hq
    have hlen := r'.length
    refine call_tuple_list pl.isList (fun h' kp => ?_) (by simp only [List.size_toArray] <;> omega)
    have I1 : Inv X pins σ H { s with heap := h' } := I.kept (t' := s.toks) kp
    have I2 : Inv X pins σ (upd H h'.objs.size (.tup ys)) { s with heap := h'.push { cls := .type "tuple", data := .seq its.toArray } } :=
      I1.laid (t' := s.toks) (fun b o e => Heap.get?_push_of_some _ e) (Nat.le_refl _) (show ObjOk X.prog X.w _ _ _ (.tup ys) from ⟨hz, its, r', IsTup.new _ _⟩)
    exact ⟨.ref h'.objs.size, _, I2, rfl, q _ (I1.hok.fresh (Nat.le_refl _))⟩
  · obtain ⟨its, r', pl, hz⟩ := I.tuple hq
    exact call_tuple_same pl ⟨.ref p, H, I, rfl, q⟩

/-! ### the call of a builtin's method: o.m(..) -/
/-- the value is of that builtin type -/
def tyV (K : PySem.W.Frag) (T : String) (x : V) (H : Hp) : Prop := match x with
  | .str _ => T = "str"
  | .int _ => T = "int"
  | .ref p => (T = "list" ∧ ∃ xs, SqL K H p xs) ∨ (T = "tuple" ∧ ∃ o, K.lookup p = some o ∧ o.cls = .type "tuple" ∧ o.dict = none) ∨
      (T = "dict" ∧ ((∃ kvs, H p = some (.dK kvs)) ∨ ∃ kvs, H p = some (.dT kvs))) ∨ (T = "set" ∧ ∃ S n, H p = some (.set S n))
  | _ => False
theorem tyV_is {pins : List (Addr × Obj)} {σ : St} {H : Hp} {s : Shared} {T : String} {x : V} {v : Value} (I : Inv X pins σ H s) (r : RelV x v) (ty : tyV X.K T x H) :
    s.TypeIs v T ∧ ∀ a, v = .ref a → ∃ ob, s.heap.get? a = some ob ∧ ob.dict = none := by
  cases x with
  | str z =>
    obtain ⟨t, rfl⟩ := r
    cases (show T = "str" from ty)
    exact ⟨typeIs_str s z t, fun _ e => nomatch e⟩
  | int i =>
    obtain ⟨t, rfl⟩ := r
    cases (show T = "int" from ty)
    exact ⟨typeIs_int s i t, fun _ e => nomatch e⟩
  | ref p =>
    cases r
    rcases ty with ⟨rfl, xs, hq⟩ | ⟨rfl, o, hk, hc, hd⟩ | ⟨rfl, hk⟩ | ⟨rfl, S, n, hk⟩
    · obtain ⟨its, _, pl, _⟩ := I.list hq
      refine ⟨pl.isList.typeIs, fun a e => ?_⟩
      cases e
      obtain ⟨o, n, e, c, hd, _⟩ := pl
      exact ⟨o, e, hd⟩
    · refine ⟨⟨o, I.kIn p o hk, hc⟩, fun a e => ?_⟩
      cases e
      exact ⟨o, I.kIn _ o hk, hd⟩
    · have z : ∃ o, s.heap.get? p = some o ∧ o.ExactDict := by
        rcases hk with ⟨kvs, hk⟩ | ⟨kvs, hk⟩
        · obtain ⟨_, _, _, _, o, _, _, e, ex, _⟩ := I.hok p _ hk
          exact ⟨o, e, ex⟩
        · obtain ⟨_, _, _, _, o, _, _, e, ex, _⟩ := I.hok p _ hk
          exact ⟨o, e, ex⟩
      obtain ⟨o, e, ex⟩ := z
      refine ⟨⟨o, e, ex.1⟩, fun a e2 => ?_⟩
      cases e2
      exact ⟨o, e, ex.2.1⟩
    · obtain ⟨o, _, _, _, e, ex, _⟩ := I.hok p _ hk
      refine ⟨⟨o, e, ex.1⟩, fun a e2 => ?_⟩
      cases e2
      exact ⟨o, e, ex.2.1⟩
  | _ => exact False.elim ty
def tBM0 (K : PySem.W.Frag) (T : String) (r : V → List V → Hp → VK → Prop) (to : TE) : TE := fun σ H Q => to σ H fun x H1 => tyV K T x H1 ∧ r x [] H1 Q
def tBM (K : PySem.W.Frag) (T : String) (r : V → List V → Hp → VK → Prop) (to : TE) (t : TA) : TE := fun σ H Q => to σ H fun x H1 => tyV K T x H1 ∧ t σ H1 fun xs H2 => r x xs H2 Q
variable {o e : Expr} {es : List Expr} {to : TE} {t : TA} {name : Str} {apos cpos : Pos} {T id : String} {r : V → List V → Hp → VK → Prop}
theorem pe_bm0 (pa : PlainAttrs T) (slot : Slot T name id) (hty : typeOf (.builtin id) = pure (.type "method_descriptor")) (hm : MtR X id r) (ho : PE X o to)
    (hbase : attributeBase o name X.env (eval o X.env) = eval o X.env := by rfl) (hline : (apos.endLine == cpos.line) = true := by rfl) : PE X (.Call (.Attribute o name apos) [] [] cpos) (tBM0 X.K T r to) := by
  intro pins s σ H Q I h
  refine wpAny_Call_method0_late hbase hline (thn (ho pins s σ H _ I h) fun v s1 ⟨x, H1, I1, r1, ty, q1⟩ => ?_)
  obtain ⟨h1, h2⟩ := tyV_is I1 r1 ty
  exact ⟨T, id, pa, slot, hty, h1, h2, Calls.callWith_builtin rfl (PySem.evalArgs_none (hm pins s1 σ H1 x [] v [] Q I1 r1 .nil q1))⟩
theorem pe_bm (pa : PlainAttrs T) (slot : Slot T name id) (hty : typeOf (.builtin id) = pure (.type "method_descriptor")) (hm : MtR X id r) (ho : PE X o to) (ha : PA X (e :: es) t)
    (hbase : attributeBase o name X.env (eval o X.env) = eval o X.env := by rfl)
    (hfew : ((backTo cpos (starEach (e :: es) X.env)).all (fun x => !x.1) && (backToKw cpos (keywordEach [] X.env)).all (fun x => x.1.isSome)
      && decide ((e :: es).length + ([] : List Keyword).length + (if ([] : List Keyword).isEmpty then 0 else 1) < 30)) = true := by rfl)
    (hline : (apos.endLine == cpos.line) = true := by rfl) (hs : starEach (e :: es) X.env = (false, eval e X.env) :: starEach es X.env := by rfl) (hplain : (backTo cpos (starEach es X.env)).any (·.1) = false := by rfl) :
    PE X (.Call (.Attribute o name apos) (e :: es) [] cpos) (tBM X.K T r to t) := by
  intro pins s σ H Q I h
  refine wpAny_Call_method_late hbase hfew hline rfl (thn (ho pins s σ H _ I h) fun v s1 ⟨x, H1, I1, r1, ty, q1⟩ => ?_)
  obtain ⟨h1, h2⟩ := tyV_is I1 r1 ty
  refine ⟨T, id, pa, slot, hty, h1, h2, ?_⟩
  have hA := ha cpos pins s1 σ H1 _ I1 q1
  rw [hs] at hA ⊢
  refine Calls.callWith_builtin (by show (false || (backTo cpos (starEach es X.env)).any (·.1)) = false; rw [hplain] <;> rfl) (Calls.evalArgs_plain ?_)
  exact thn hA fun us s2 ⟨vs, H2, I2, r2, q2⟩ => hm pins s2 σ H2 x vs v us Q I2 r1 r2 q2
/- xs.append(e), list.index on a module's tuple .. are MtR facts of 06m -/
end
end L2

namespace L2
open PySem PySem.Spec PyProof.Rows

def MtM (X : Cx) (id : String) (r : V → List V → Hp → VK → Prop) : Prop :=
  ∀ (pins : List (Addr × Obj)) (s : Shared) (σ : St) (H : Hp) (x : V) (xs : List V) (v : Value) (us : List Value) (Q : VK), Inv X pins σ H s → RelV x v → Vals xs us → r x xs H Q →
    wpAny (model X.prog X.w) X.A (call (.builtin id) (v :: us)) (EP X pins σ Q) X.xe s

/-! ### lists of values -/
theorem Vals.one : ∀ {x : V} {us : List Value}, Vals [x] us → ∃ u, us = [u] ∧ RelV x u
  | _, _, .cons r .nil => ⟨_, rfl, r⟩
theorem Vals.two : ∀ {x y : V} {us : List Value}, Vals [x, y] us → ∃ u v, us = [u, v] ∧ RelV x u ∧ RelV y v
  | _, _, _, .cons r (.cons q .nil) => ⟨_, _, rfl, r, q⟩
theorem Vals.zero : ∀ {us : List Value}, Vals [] us → us = []
  | _, .nil => rfl
theorem Vals.dropLast {xs : List V} {us : List Value} (h : Vals xs us) : Vals xs.dropLast us.dropLast := by
  induction h with
  | nil => exact .nil
  | cons r t ih =>
    cases t with
    | nil => exact .nil
    | cons q t' => exact .cons r ih
theorem Vals.eraseIdx : ∀ {xs : List V} {us : List Value} (i : Nat), Vals xs us → Vals (xs.eraseIdx i) (us.eraseIdx i)
  | _, _, _, .nil => .nil
  | _, _, 0, .cons _ t => t
  | _, _, i + 1, .cons r t => .cons r (Vals.eraseIdx i t)
theorem Vals.reverse {xs : List V} {us : List Value} (h : Vals xs us) : Vals xs.reverse us.reverse := by
  induction h with
  | nil => exact .nil
  | cons r t ih => rw [List.reverse_cons, List.reverse_cons]; exact Vals.append ih (.cons r .nil)
theorem Vals.rep {xs : List V} {us : List Value} (h : Vals xs us) : ∀ k : Nat, Vals (List.replicate k xs).flatten (List.replicate k us).flatten
  | 0 => .nil
  | k + 1 => by
    rw [List.replicate_succ, List.replicate_succ, List.flatten_cons, List.flatten_cons]
    exact Vals.append h (Vals.rep h k)
theorem erase_last {α : Type} (l : List α) : l.eraseIdx (l.length - 1) = l.dropLast := by
  induction l with
  | nil => rfl
  | cons a r ih =>
    cases r with
    | nil => rfl
    | cons b r =>
      have e : (a :: b :: r).length - 1 = ((b :: r).length - 1) + 1 := by
        have h1 : (a :: b :: r).length = r.length + 2 := rfl
        have h2 : (b :: r).length = r.length + 1 := rfl
        omega
      rw [e, List.eraseIdx_cons_succ, ih]
      all_goals rfl
theorem len_erase {α : Type} : ∀ (l : List α) (i : Nat), (l.eraseIdx i).length ≤ l.length
  | [], _ => Nat.le_refl _
  | _ :: _, 0 => Nat.le_succ _
  | _ :: r, i + 1 => Nat.succ_le_succ (len_erase r i)
theorem foldl_rep (its : List Value) : ∀ (k : Nat) (acc : List Value),
    List.foldl (fun x1 x2 => x1 ++ x2) acc.toArray (List.replicate k its.toArray) = (acc ++ (List.replicate k its).flatten).toArray
  | 0, acc => by simp
  | k + 1, acc => by
    have e : acc.toArray ++ its.toArray = (acc ++ its).toArray := by simp
    have e2 : (acc ++ its) ++ (List.replicate k its).flatten = acc ++ (List.replicate (k + 1) its).flatten := by
      rw [List.replicate_succ, List.flatten_cons, List.append_assoc]
    rw [← e2, ← foldl_rep its k (acc ++ its), ← e, List.replicate_succ, List.foldl_cons]

section
variable {X : Cx} {pins : List (Addr × Obj)} {σ : St} {H : Hp} {s : Shared} {l b : Addr} {xs ys zs : List V}

/-! ### the two steps: a tracked list is rewritten, a new list is laid -/
theorem Inv.lset {its its' : List Value} {n : Nat} {f : Array Value → Array Value} {t' : Nat} (I : Inv X pins σ H s) (hH : H l = some (.lst xs))
    (e : s.heap.get? l = some { cls := .type "list", data := .seq its.toArray n }) (hf : f its.toArray = its'.toArray) (hv : Vals ys its') (hz : ys.length ≤ sizeLine) :
    Inv X pins σ (upd H l (.lst ys)) { s with heap := s.heap.update l (Obj.mapSeq f), toks := t' } := by
  have q := PySem.IsL.update e f
  rw [hf] at q
  refine I.write (x := l) (e := l) (by rw [hH]; exact trivial) (.inl rfl) (fun b' u hb hu => (Heap.get?_update_other s.heap (Obj.mapSeq f) (Ne.symm hb)).trans hu) ⟨_, q⟩ ?_
  exact ⟨hz, its', _, hv, q⟩
theorem Inv.lnew {its : List Value} {t' : Nat} (I : Inv X pins σ H s) (hv : Vals ys its) (hz : ys.length ≤ sizeLine) :
    Inv X pins σ (upd H s.heap.objs.size (.lst ys)) { s with heap := s.heap.push { cls := .type "list", data := .seq its.toArray }, toks := t' } :=
  I.laid (fun _ _ q => Heap.get?_push_of_some _ q) (Nat.le_refl _) ⟨hz, its, 0, hv, Heap.get?_push_size _ rfl⟩
theorem Inv.fresh (I : Inv X pins σ H s) : H s.heap.objs.size = none := I.hok.fresh (Nat.le_refl _)
theorem Inv.lstM (I : Inv X pins σ H s) (hH : H l = some (.lst xs)) : xs.length ≤ sizeLine ∧ ∃ (its : List Value) (n : Nat), Vals xs its ∧ xs.length = its.length ∧ s.heap.get? l = some { cls := .type "list", data := .seq its.toArray n } := by
  obtain ⟨z, its, n, r, e⟩ := I.hok l _ hH
  exact ⟨z, its, n, r, r.length, e⟩

theorem notLongL {n : Nat} (h : n ≤ sizeLine) : Builtin.List.listTooLong n = false := by
  unfold Builtin.List.listTooLong
  exact decide_eq_false (by omega)
end

section
variable {X : Cx}

/-! ### methods -/
def rAppend : V → List V → Hp → VK → Prop := fun x vs H Q => ∃ l xs y, x = .ref l ∧ vs = [y] ∧ H l = some (.lst xs) ∧ xs.length < sizeLine ∧ Q .non (upd H l (.lst (xs ++ [y])))
theorem mt_append : MtM X "list.append" rAppend := by
  intro pins s σ H x vs v us Q I rx rv h
  obtain ⟨l, xs, y, rfl, rfl, hH, hz, q⟩ := h
  cases rx
  obtain ⟨u, rfl, ru⟩ := rv.one
  obtain ⟨z, its, n, r, hl, e⟩ := I.lstM hH
  refine call_meets F.slot_list_append ⟨_, e, rfl⟩ F.entry_list_append (F.args_list_append_2 _ _) (PySem.list_append l its.toArray n u (by rw [List.size_toArray]; omega)) ⟨e, ?_⟩
  refine ⟨.non, _, I.lset (its' := its ++ [u]) hH e (by simp) (r.append (.cons ru .nil)) ?_, rfl, q⟩
  rw [List.length_append, List.length_singleton]
  omega

def rExtend : V → List V → Hp → VK → Prop := fun x vs H Q => ∃ l b xs zs, x = .ref l ∧ vs = [.ref b] ∧ H l = some (.lst xs) ∧ H b = some (.lst zs) ∧ xs.length + zs.length ≤ sizeLine ∧ Q .non (upd H l (.lst (xs ++ zs)))
theorem mt_extend : MtM X "list.extend" rExtend := by
  intro pins s σ H x vs v us Q I rx rv h
  obtain ⟨l, b, xs, zs, rfl, rfl, hH, hB, hz, q⟩ := h
  cases rx
  obtain ⟨u, rfl, ru⟩ := rv.one
  cases ru
  obtain ⟨z, its, n, r, hl, e⟩ := I.lstM hH
  obtain ⟨z2, its2, n2, r2, hl2, e2⟩ := I.lstM hB
  have hsz : its.toArray.size + its2.toArray.size ≤ sizeLine := by rw [List.size_toArray, List.size_toArray]; omega
  have hlong : ¬ (!its.toArray.isEmpty && Builtin.List.listTooLong (its.toArray.size + its2.toArray.size)) = true := by
    rw [notLongL hsz, Bool.and_false]
    exact Bool.false_ne_true
  refine call_meets F.slot_list_extend ⟨_, e, rfl⟩ F.entry_list_extend (F.args_list_extend_2 _ _)
    (AutoSeq1.list_extend_list_list_0 l its.toArray n b its2.toArray n2 hlong (by rw [List.size_toArray]; omega) (by omega)) ⟨e, e2, ?_⟩
  refine ⟨.non, _, I.lset (its' := its ++ its2) hH e (by simp) (r.append r2) ?_, rfl, q⟩
  rw [List.length_append]
  omega

def rPop : V → List V → Hp → VK → Prop := fun x vs H Q => ∃ l xs y, x = .ref l ∧ vs = [] ∧ H l = some (.lst xs) ∧ xs[xs.length - 1]? = some y ∧ Q y (upd H l (.lst xs.dropLast))
theorem mt_pop : MtM X "list.pop" rPop := by
  intro pins s σ H x vs v us Q I rx rv h
  obtain ⟨l, xs, y, rfl, rfl, hH, hy, q⟩ := h
  cases rx
  have hus := rv.zero
  subst hus
  obtain ⟨z, its, n, r, hl, e⟩ := I.lstM hH
  obtain ⟨u, hu, ru⟩ := r.get hy
  have hy' : its.toArray[its.toArray.size - 1]? = some u := by
    show its.toArray[its.length - 1]? = some u
    rw [← Array.getElem?_toList, ← hl]
    exact hu
  refine call_meets F.slot_list_pop ⟨_, e, rfl⟩ F.entry_list_pop (F.args_list_pop_1 _) (MeetsSeq.list_pop_last l its.toArray n u hy' (by rw [List.size_toArray]; omega)) ⟨e, ?_⟩
  refine ⟨y, _, I.lset (its' := its.dropLast) hH e ?_ r.dropLast ?_, ru, q⟩
  · show its.toArray.eraseIdxIfInBounds (its.toArray.size - 1) = its.dropLast.toArray
    rw [List.size_toArray, List.eraseIdxIfInBounds_toArray, erase_last]
  · rw [List.length_dropLast]
    omega

def rPopAt : V → List V → Hp → VK → Prop := fun x vs H Q => ∃ l xs i k y, x = .ref l ∧ vs = [.int i] ∧ H l = some (.lst xs) ∧ -(2 ^ 63) ≤ i ∧ i < 2 ^ 63 ∧ seqIndex? i xs.length = some k ∧ xs[k]? = some y ∧ Q y (upd H l (.lst (xs.eraseIdx k)))
theorem mt_popAt : MtM X "list.pop" rPopAt := by
  intro pins s σ H x vs v us Q I rx rv h
  obtain ⟨l, xs, i, k, y, rfl, rfl, hH, h1, h2, hk, hy, q⟩ := h
  cases rx
  obtain ⟨u, rfl, ru⟩ := rv.one
  obtain ⟨t, rfl⟩ := ru
  obtain ⟨z, its, n, r, hl, e⟩ := I.lstM hH
  obtain ⟨w, hw, rw'⟩ := r.get hy
  refine call_meets F.slot_list_pop ⟨_, e, rfl⟩ F.entry_list_pop (F.args_list_pop_2 _ _)
    (MeetsSeq.list_pop_at l its.toArray n i t k w (fitsIndex_both h1 h2) (by rw [List.size_toArray, ← hl]; exact hk) (by rw [← Array.getElem?_toList]; exact hw) (by rw [List.size_toArray]; omega)) ⟨e, ?_⟩
  refine ⟨y, _, I.lset (its' := its.eraseIdx k) hH e ?_ (r.eraseIdx k) ?_, rw', q⟩
  · show its.toArray.eraseIdxIfInBounds k = (its.eraseIdx k).toArray
    rw [List.eraseIdxIfInBounds_toArray]
  · have := len_erase xs k
    omega

def rReverse : V → List V → Hp → VK → Prop := fun x vs H Q => ∃ l xs, x = .ref l ∧ vs = [] ∧ H l = some (.lst xs) ∧ Q .non (upd H l (.lst xs.reverse))
theorem mt_reverse : MtM X "list.reverse" rReverse := by
  intro pins s σ H x vs v us Q I rx rv h
  obtain ⟨l, xs, rfl, rfl, hH, q⟩ := h
  cases rx
  have hus := rv.zero
  subst hus
  obtain ⟨z, its, n, r, hl, e⟩ := I.lstM hH
  refine call_meets F.slot_list_reverse ⟨_, e, rfl⟩ F.entry_list_reverse (F.args_list_reverse_1 _) (AutoSeq1.list_reverse_list_0 l its.toArray n (by rw [List.size_toArray]; omega)) ⟨e, ?_⟩
  refine ⟨.non, _, I.lset (its' := its.reverse) hH e (by simp) r.reverse ?_, rfl, q⟩
  rw [List.length_reverse]
  omega

def rClear : V → List V → Hp → VK → Prop := fun x vs H Q => ∃ l xs, x = .ref l ∧ vs = [] ∧ H l = some (.lst xs) ∧ Q .non (upd H l (.lst []))
theorem mt_clear : MtM X "list.clear" rClear := by
  intro pins s σ H x vs v us Q I rx rv h
  obtain ⟨l, xs, rfl, rfl, hH, q⟩ := h
  cases rx
  have hus := rv.zero
  subst hus
  obtain ⟨z, its, n, r, hl, e⟩ := I.lstM hH
  refine call_meets F.slot_list_clear ⟨_, e, rfl⟩ F.entry_list_clear (F.args_list_clear_1 _) (AutoSeq1.list_clear_list_0 l its.toArray n (by rw [List.size_toArray]; omega)) ⟨e, ?_⟩
  exact ⟨.non, _, I.lset (its' := []) (ys := []) hH e rfl .nil (Nat.zero_le _), rfl, q⟩

/-! ### list + list, list += list, list * int -/
def rCat : R2 := fun x y H Q => ∃ l b xs zs, x = .ref l ∧ y = .ref b ∧ H l = some (.lst xs) ∧ H b = some (.lst zs) ∧ xs.length + zs.length ≤ sizeLine ∧ ∀ p, H p = none → Q (.ref p) (upd H p (.lst (xs ++ zs)))
theorem op_cat : OpR X (binaryOp .Add) rCat := by
  intro pins s σ H x y v u Q I rx ry h
  obtain ⟨l, b, xs, zs, rfl, rfl, hH, hB, hz, q⟩ := h
  cases rx
  cases ry
  obtain ⟨z, its, n, r, hl, e⟩ := I.lstM hH
  obtain ⟨z2, its2, n2, r2, hl2, e2⟩ := I.lstM hB
  refine PySem.P.add_list e e2 ?_ (by rw [List.size_toArray, List.size_toArray]; omega)
  have ea : its.toArray ++ its2.toArray = (its ++ its2).toArray := by simp
  rw [ea]
  exact ⟨.ref _, _, I.lnew (t' := s.toks) (r.append r2) (by rw [List.length_append]; omega), rfl, q _ I.fresh⟩
/-- a list times an int (a negative one is nothing) -/
def rRep : R2 := fun x y H Q => ∃ l k xs, x = .ref l ∧ y = .int k ∧ H l = some (.lst xs) ∧ -(2 ^ 63) ≤ k ∧ k < 2 ^ 63 ∧ xs.length * k.toNat ≤ sizeLine ∧
  ∀ p, H p = none → Q (.ref p) (upd H p (.lst (List.replicate k.toNat xs).flatten))
theorem len_rep {α : Type} (xs : List α) (k : Nat) : (List.replicate k xs).flatten.length = k * xs.length := by
  induction k with
  | zero => simp
  | succ k ih => rw [List.replicate_succ, List.flatten_cons, List.length_append, ih, Nat.succ_mul, Nat.add_comm]
theorem op_rep : OpR X (binaryOp .Mult) rRep := by
  intro pins s σ H x y v u Q I rx ry h
  obtain ⟨l, k, xs, rfl, rfl, hH, h1, h2, hz, q⟩ := h
  cases rx
  obtain ⟨t, rfl⟩ := ry
  obtain ⟨z, its, n, r, hl, e⟩ := I.lstM hH
  have hlen : its.toArray.size * k.toNat ≤ sizeLine := by rw [List.size_toArray, ← hl]; exact hz
  have hcap : ¬ its.toArray.size * k.toNat > (2 ^ 63 - 1) / 8 := by
    have : (sizeLine : Nat) ≤ (2 ^ 63 - 1) / 8 := by decide
    omega
  have hfit : ¬ (!Builtin.List.listFitsIndex k) = true := by
    rw [fitsIndex_both h1 h2]
    exact Bool.false_ne_true
  have hlong : ¬ Builtin.List.listTooLong (its.toArray.size * k.toNat) = true := by
    rw [notLongL hlen]
    exact Bool.false_ne_true
  have hnew : List.foldl (fun x1 x2 => x1 ++ x2) #[] (List.replicate (if its.toArray.isEmpty = true then 0 else k.toNat) its.toArray) = (List.replicate k.toNat its).flatten.toArray := by
    have f0 : ∀ m : Nat, List.foldl (fun x1 x2 => x1 ++ x2) #[] (List.replicate m its.toArray) = (List.replicate m its).flatten.toArray := fun m => by
      have := foldl_rep its m []
      rw [List.nil_append] at this
      exact this
    rw [f0]
    cases its with
    | nil => simp
    | cons a r' => rw [if_neg (by simp)]
  refine wpAny_binaryOp_repeat_ref (T := "list") (U := "int") (by decide) ⟨_, e, rfl⟩ (fun s' => typeIs_int s' k t) noFill_list_mul F.fills_int_mul F.slot_int_rmul repeat_list F.slot_int_index.lookup
    (call_meets F.slot_int_rmul (typeIs_int s k t) F.entry_int_rmul (F.args_int_rmul_2 _ _) (int___rmul___int_list k t l its.toArray n)
      ⟨e, rfl, ⟨_, e, rfl⟩, call_meets F.slot_list_mul ⟨_, e, rfl⟩ F.entry_list_mul (F.args_list_mul_2 _ _) (AutoListH.list___mul___list_int_3 l its.toArray n k t hfit hcap hlong) ⟨e, ?_⟩⟩)
  rw [hnew]
  exact ⟨.ref _, _, I.lnew (t' := s.toks) (r.rep k.toNat) (by rw [len_rep, Nat.mul_comm]; exact hz), rfl, q _ I.fresh⟩

/-! ### del xs[i] -/
theorem del_list {pins : List (Addr × Obj)} {s : Shared} {σ : St} {H : Hp} {l : Addr} {xs : List V} {i : Int} {t : Tok} {k : Nat} {Q : Unit → Shared → Prop} (I : Inv X pins σ H s) (hH : H l = some (.lst xs))
    (h1 : -(2 ^ 63) ≤ i) (h2 : i < 2 ^ 63) (hk : seqIndex? i xs.length = some k) (h : ∀ s', Inv X pins σ (upd H l (.lst (xs.eraseIdx k))) s' → Q () s') :
    wpAny (model X.prog X.w) X.A (delItem (.ref l) (.int i t)) Q X.xe s := by
  obtain ⟨z, its, n, r, hl, e⟩ := I.lstM hH
  refine PySem.P.delItem_list (k := k) e (fitsIndex_both h1 h2) (by rw [List.size_toArray, ← hl]; exact hk) (h _ ?_) (by rw [List.size_toArray]; omega)
  refine I.lset (its' := its.eraseIdx k) (t' := s.toks) hH e ?_ (r.eraseIdx k) ?_
  · show its.toArray.eraseIdxIfInBounds k = (its.eraseIdx k).toArray
    rw [List.eraseIdxIfInBounds_toArray]
  · have := len_erase xs k
    omega
end

/-! ### xs[a:b] = ys -/
section
variable {prog : Program} {w : World} {A : Around} {E : Value → Shared → Prop} {s : Shared}
theorem splice_eq (its its2 : List Value) (a c : Nat) : its.toArray.extract 0 a ++ its2.toArray ++ its.toArray.extract c its.toArray.size = (its.take a ++ its2 ++ its.drop c).toArray := by
  apply Array.toList_inj.mp
  first
    | (simp
       exact List.take_of_length_le (by simp))
    | simp [List.take_of_length_le]
    | simp
theorem bounds_run {a c n : Nat} (hac : a ≤ c) (hc : c ≤ n) : sliceBounds (some (a : Int)) (some (c : Int)) none n = ((a : Int), (c : Int), 1) := by
  simp only [sliceBounds, Option.getD_none]
  have h1 : ¬ ((a : Int) < 0) := by omega
  have h2 : ¬ ((c : Int) < 0) := by omega
  simp only [h1, h2, if_false, show (1 : Int) > 0 by decide, if_true]
  congr 1
  · omega
  · congr 1; omega
set_option maxRecDepth 100000 in
/-- list.__setitem__ with a slice of step one and another list -/
theorem setItem_slice {l b sl : Addr} {items new : Array Value} {n n2 : Nat} {vl vu : Value} {a c : Nat} {Q : Unit → Shared → Prop}
    (e : s.heap.get? l = some { cls := .type "list", data := .seq items n }) (e2 : s.heap.get? b = some { cls := .type "list", data := .seq new n2 }) (hne : l ≠ b)
    (hs : s.heap.IsSliceOf sl vl vu .none) (pl : IsPart vl (some (a : Int))) (pu : IsPart vu (some (c : Int))) (hac : a ≤ c) (hc : c ≤ items.size)
    (hsz : items.size + new.size ≤ sizeLine) (h : Q () { s with heap := s.heap.update l (Obj.mapSeq fun xs => xs.extract 0 a ++ new ++ xs.extract c xs.size) }) :
    wpAny (model prog w) A (setItem (.ref l) (.ref sl) (.ref b)) Q E s := by
  have hl : s.heap.IsList l items := PySem.IsL.isList e
  have hb : s.heap.IsList b new := PySem.IsL.isList e2
  obtain ⟨os, hos, hcs, hds⟩ := id hs
  have hTs : s.TypeIs (.ref sl) "slice" := ⟨os, hos, hcs⟩
  have hstep : ¬ ((rawPart none == rawInt 0) = true) := Bool.false_ne_true
  have hsame : Builtin.List.listSameRef (.ref l) (.ref b) = false := by
    unfold Builtin.List.listSameRef
    exact beq_eq_false_iff_ne.mpr hne
  have hmax : (max (a : Int) (c : Int)).toNat = c := by omega
  have hz' : ((fun xs : Array Value => xs.extract 0 a ++ new ++ xs.extract c xs.size) items).size ≤ sizeLine + 1 := by
    simp only [Array.size_append, Array.size_extract]
    omega
  unfold setItem
  try with_reducible refine wpAny_holding ?_
  first | refine wpAny_bind (wpAny_pure ?_) | skip
  refine wpAny_bind (wpAny_sequenceKey hl.typeIs (by decide) ?_)
  refine wpAny_bind (wpAny_callSpecial?_slot (name := Str.ofString "__setitem__") hl.typeIs slot_list_setitem
    (wpAny_call_entry slot_list_setitem hl.typeIs entry_list_setitem ?_ (args_list_setitem _ _ _)))
  show wpAny _ _ (Builtin.List.listSubscript? (.ref sl) >>= _) _ _ s
  refine wpAny_bind ?_
  unfold Builtin.List.listSubscript?
  refine wpAny_bind (wpAny_specialOf hTs slice_no_index ?_)
  simp only [Option.isNone_none, if_true]
  refine wpAny_pure ?_
  show wpAny _ _ (typeOf (.ref sl) >>= _) _ _ s
  refine wpAny_bind (wpAny_typeOf hTs ?_)
  first
    | rw [if_neg (by decide)]
    | refine PySem.W.KFB.if_not (by decide) ?_
  rw [listSliceParts_eq]
  refine wpAny_bind (wpAny_bind (wpAny_field hos hds (x := .none) rfl (wpAny_bind (wpAny_listPart .none ?_))))
  rw [if_neg hstep]
  refine wpAny_bind (wpAny_field hos hds (x := vl) rfl (wpAny_bind (wpAny_listPart pl ?_)))
  refine wpAny_bind (wpAny_field hos hds (x := vu) rfl (wpAny_bind (wpAny_listPart pu (wpAny_pure ?_))))
  first
    | simp only [hsame, Bool.false_eq_true, if_false]
    | refine PySem.W.KFB.if_not hsame ?_
    | (dsimp only
       rw [if_neg (by rw [hsame]; exact Bool.false_ne_true)])
  refine wpAny_bind (m := Builtin.List.listAllItems (.ref b) "must assign iterable to extended slice") ?_
  unfold Builtin.List.listAllItems
  refine wpAny_bind (wpAny_typeOf hb.typeIs ?_)
  first
    | refine PySem.W.KFB.if_so (by decide) ?_
    | rw [if_pos (by decide)]
    | simp only [beq_self_eq_true, Bool.true_or, if_true]
  unfold Builtin.List.listItems
  refine wpAny_bind (wpAny_seqItems e2 rfl (wpAny_pure ?_))
  refine wpAny_bind (wpAny_bind (wpAny_seqItems e rfl (wpAny_pure ?_)))
  refine wpAny_bind (wpAny_of_eq ((sliceIndices_raw (some (a : Int)) (some (c : Int)) none items.size (by simp)).trans (congrArg (pure : Int × Int × Int → Sem (Int × Int × Int)) (bounds_run hac hc))) ?_)
  show wpAny _ _ (if ((1 : Int) == 1) = true then _ else _) _ _ s
  rw [if_pos (by decide)]
  refine wpAny_bind (wpAny_rule ?_)
  first
    | simp only [notLongL hsz, Bool.false_eq_true, if_false]
    | refine PySem.W.KFB.if_not (notLongL hsz) ?_
  first | refine wpAny_bind (wpAny_pure ?_) | skip
  show wpAny _ _ (updateSeq l (fun xs => xs.extract 0 ((a : Int)).toNat ++ new ++ xs.extract (max (a : Int) (c : Int)).toNat xs.size) >>= _) _ _ s
  rw [hmax, Int.toNat_natCast]
  refine wpAny_bind (wpAny_updateSeq (hz := Nat.le_trans (Nat.le_add_right _ _) hsz) (_hz' := hz') e rfl ?_)
  refine wpAny_bind (wpAny_letGo ?_)
  first
    | exact wpAny_bind (wpAny_pure (wpAny_pure ⟨.none, rfl, wpAny_pure h⟩))
    | exact wpAny_pure ⟨.none, rfl, wpAny_pure h⟩
end

section
variable {X : Cx}
/-- xs[a:c] = ys of another list, at the value level: sl is the slice object that was just made -/
theorem set_slice {pins : List (Addr × Obj)} {s : Shared} {σ : St} {H : Hp} {l b sl : Addr} {xs ys : List V} {a c : Int} {vl vu : Value} {Q : Unit → Shared → Prop} (I : Inv X pins σ H s)
    (hH : H l = some (.lst xs)) (hB : H b = some (.lst ys)) (hne : l ≠ b) (hs : s.heap.IsSliceOf sl vl vu .none) (ra : RelV (.int a) vl) (rc : RelV (.int c) vu) (h0 : 0 ≤ a) (hac : a ≤ c) (hc : c ≤ xs.length)
    (hz : xs.length + ys.length ≤ sizeLine) (h : ∀ s', Inv X pins σ (upd H l (.lst (xs.take a.toNat ++ ys ++ xs.drop c.toNat))) s' → Q () s') :
    wpAny (model X.prog X.w) X.A (setItem (.ref l) (.ref sl) (.ref b)) Q X.xe s := by
  obtain ⟨ta, rfl⟩ := ra
  obtain ⟨tc, rfl⟩ := rc
  obtain ⟨z, its, n, r, hl, e⟩ := I.lstM hH
  obtain ⟨z2, its2, n2, r2, hl2, e2⟩ := I.lstM hB
  obtain ⟨a', rfl⟩ := Int.eq_ofNat_of_zero_le h0
  obtain ⟨c', rfl⟩ := Int.eq_ofNat_of_zero_le (Int.le_trans h0 hac)
  simp only [Int.toNat_natCast] at h
  refine setItem_slice (a := a') (c := c') e e2 hne hs (.int _ _) (.int _ _) (by omega) (by rw [List.size_toArray]; omega) (by rw [List.size_toArray, List.size_toArray]; omega) (h _ ?_)
  refine I.lset (its' := its.take a' ++ its2 ++ its.drop c') (t' := s.toks) hH e ?_ (Vals.append (Vals.append (r.take _) r2) (r.drop _)) ?_
  · exact splice_eq its its2 a' c'
  · rw [List.length_append, List.length_append, List.length_take, List.length_drop]
    omega
end
end L2

namespace Att
open PySem PySem.W PySem.Calls PyProof.Rows

/-! ### the script -/
theorem ints_of_wellAll {P : Params} {h : Heap} : ∀ (ns : List Int) (vs : List Value), WellAll P h vs (ns.map WData.int) → IntsAre vs ns := by
  intro ns
  induction ns with
  | nil =>
    intro vs w
    rw [List.map_nil] at w
    cases w
    exact .nil
  | cons n ns ih =>
    intro vs w
    rw [List.map_cons] at w
    cases w with
    | cons a b =>
      cases a
      exact .cons _ _ (ih _ b)

theorem script_of {l : OpenLaw} {n : Nat} (hn : l.most = some n) {P : Params} {h : Heap} {args : List WData} {vals : List Value}
    (hpre : l.row.toRowW.claim.pre args = true) (hwl : WellAll P h vals args) :
    ∃ a vs ns, vals = [Value.ref a] ∧ args = [WData.list (ns.map WData.int)] ∧ h.get? a = some { cls := .type "list", data := .seq vs.toArray } ∧ IntsAre vs ns ∧ ns.length ≤ n := by
  have hsh : WShape.hasAll [] args [.list .int] = true := (pre_splitW hpre).1
  have hc : l.pre.holds [] { args := args } = true := (pre_splitW hpre).2
  obtain ⟨d, r, rfl, h1, h2⟩ := hasAllW_cons hsh
  obtain rfl := hasAllW_nil h2
  obtain ⟨xs, rfl, h3⟩ := hasW_list h1
  obtain ⟨ns, rfl⟩ := items_int h3
  have hlen : ns.length ≤ n := by
    unfold OpenLaw.pre at hc
    have h4 : (WTm.not (.lt (.lit (.int (n : Int))) (.len (.arg 0)))).holds [] { args := [.list (ns.map .int)] } = true := by
      have h4 := (holds_andW hc).1
      rw [hn] at h4
      exact h4
    have h5 := condW_of h4 (w_not (w_lt w_lit (w_len_list (w_arg rfl))))
    rw [List.length_map] at h5
    refine Nat.le_of_not_lt fun q => ?_
    have q' : (n : Int) < ((ns.length : Nat) : Int) := by omega
    first
      | (rw [decide_eq_true q'] at h5; exact absurd h5 (by decide))
      | (simp at h5; omega)
  cases hwl with
  | cons w1 w2 =>
    cases w2
    cases w1 with
    | list ho hall => exact ⟨_, _, ns, rfl, rfl, ho, ints_of_wellAll ns _ hall, hlen⟩

theorem post_true (l : OpenLaw) (args : List WData) : l.row.toRowW.claim.post args (.bool true) args = true :=
  postW_of (r := l.row.toRowW) (X := (true == true))
    (show WShape.has [] (.bool true) .bool = true by first | rfl | decide | simp [WShape.has, WShape.arms, WShape.armsAll])
    (show (WTm.eq .res (.lit (.bool true))).value [] { args := args, res := some (.bool true), after := args } = some (.bool (true == true)) from w_eq_bool (w_res rfl) w_lit) rfl

/-! ### the attachment: holds_open's last premise (the goal 'hc' behind k_head) from a wpAny of the law's body -/
theorem attach {l : OpenLaw} {n : Nat} {q : Program} {loose : List Str} {XP : (Str → Option Value) → Heap → Prop} {YP : World → Heap → Prop} {d : DefRec} {x : Str}
    (hn : l.most = some n) (hdf : d.params.defaults = [])
    (hbind : ∀ pm cd doc v : Value, bindArgs (docDef d.name d.params d.body d.scope pm cd doc) ⟨[v], []⟩ = pure [(x, v)])
    (hx : d.scope.names.lookup x = some .local ∨ d.scope.names.lookup x = some .cell)
    (hk : d.scope.kind = .function) (hco : d.scope.isCoroutine = false) (hgen : d.scope.isGenerator = false)
    (body : ∀ (w : World) (s₀ s₁ s : Shared) (mg mb : Str → Option Value) (fa : Addr) (o : Obj) (pm cd doc : Value) (a : Addr) (vs : List Value) (ns : List Int),
      Ground q loose [] XP w s₀ mg mb s₁.heap → YP w s₁.heap →
      s₁.heap.get? fa = some o → o.data = .func (docDef d.name d.params d.body d.scope pm cd doc) → s₁.heap.CodeRec cd d.name → mg d.name = some (.ref fa) →
      s₁.heap.get? a = some { cls := .type "list", data := .seq vs.toArray } → IntsAre vs ns → ns.length ≤ n →
      s.gens = #[] → s.os = s₁.os →
      Fr s₁.heap s₁.heap.objs.size s.heap (bindL (envOfC d.name d.scope s₁.heap.objs.size fa cd).kindOf [(x, .ref a)] fun _ => none) →
      Cl s₁.heap.objs.size (cellsFrom (s₁.heap.objs.size + 1) d.scope.names []) s.heap (bindC (envOfC d.name d.scope s₁.heap.objs.size fa cd).kindOf [(x, .ref a)] fun _ => none) →
      wpAny (model l.prog w) (callerA.deeper (envOfC d.name d.scope s₁.heap.objs.size fa cd)) (execs d.body (envOfC d.name d.scope s₁.heap.objs.size fa cd))
        (fun f s' => f = .ret (.bool true) ∧ OldK s₁.heap s'.heap ∧ s'.os = s₁.os ∧ AllBare s'.gens) (fun _ _ => False) s) :
    WalkO q loose XP YP l.row.toRowW d [] (fun f vs => PySem.call f vs) := by
  intro w s₀ s₁ mg mb G Y fa o pm cd doc dV kV ho hd hcd hD hmg hg args vals as hpre hlay hrd hwl hlo
  obtain rfl : dV = .none := Dflts.none hD hdf
  obtain rfl : kV = .none := Dflts.noKw hD
  obtain ⟨a, vs, ns, rfl, rfl, hobj, hints, hlen⟩ := script_of hn hpre hwl
  refine enter_call ?_
  refine call_cells_ret (o := o) (by rw [depth_caller]; decide) ho (fd_plain hd) G.T.nolimit hcd (hbind pm cd doc (.ref a)) (fun y hy => ?_) (fun h₁ tk F X => ?_) hco hgen hk
  · obtain rfl : y = (x, Value.ref a) := List.mem_singleton.mp hy
    rcases hx with e | e
    · exact .inl e
    · exact .inr ⟨e, cellsFrom_some _ _ _ (.inl e)⟩
  · refine wpAny_mono (body w s₀ s₁ { s₁ with heap := h₁, toks := tk } mg mb fa o pm cd doc a vs ns G Y ho (fd_plain hd) hcd hmg hobj hints hlen hg rfl F X) (fun f s' hq => ?_) (fun _ _ hq => hq)
    obtain ⟨rfl, h2, h3, h4⟩ := hq
    exact ⟨.inl ⟨.bool true, .bool true, [], rfl, fun _ => rfl, .bool true, post_true l _, fun _ => ⟨List.Pairwise.nil, fun _ hm => (nomatch hm)⟩⟩, h2, h3, h4⟩

/-- the same from a codeAny of the CALL (for a layer whose function contracts speak of calls) -/
theorem attach_call {l : OpenLaw} {n : Nat} {q : Program} {loose : List Str} {XP : (Str → Option Value) → Heap → Prop} {YP : World → Heap → Prop} {d : DefRec}
    (hn : l.most = some n) (hdf : d.params.defaults = [])
    (call : ∀ (w : World) (s₀ s₁ : Shared) (mg mb : Str → Option Value) (fa : Addr) (o : Obj) (pm cd doc : Value) (a : Addr) (vs : List Value) (ns : List Int),
      Ground q loose [] XP w s₀ mg mb s₁.heap → YP w s₁.heap →
      s₁.heap.get? fa = some o → o.data = .func (docDef d.name d.params d.body d.scope pm cd doc) → s₁.heap.CodeRec cd d.name → mg d.name = some (.ref fa) →
      s₁.heap.get? a = some { cls := .type "list", data := .seq vs.toArray } → IntsAre vs ns → ns.length ≤ n → s₁.gens = #[] →
      codeAny (model l.prog w) callerA (.call (.ref fa) ⟨[.ref a], []⟩) (fun r s' => r = .ok (.ret (.bool true)) ∧ OldK s₁.heap s'.heap ∧ s'.os = s₁.os ∧ AllBare s'.gens) s₁) :
    WalkO q loose XP YP l.row.toRowW d [] (fun f vs => PySem.call f vs) := by
  intro w s₀ s₁ mg mb G Y fa o pm cd doc dV kV ho hd hcd hD hmg hg args vals as hpre hlay hrd hwl hlo
  obtain rfl : dV = .none := Dflts.none hD hdf
  obtain rfl : kV = .none := Dflts.noKw hD
  obtain ⟨a, vs, ns, rfl, rfl, hobj, hints, hlen⟩ := script_of hn hpre hwl
  refine enter_call (codeAny_mono (call w s₀ s₁ mg mb fa o pm cd doc a vs ns G Y ho (fd_plain hd) hcd hmg hobj hints hlen hg) fun r s' hq => ?_)
  obtain ⟨rfl, h2, h3, h4⟩ := hq
  exact ⟨.inl ⟨.bool true, .bool true, [], rfl, fun _ => rfl, .bool true, post_true l _, fun _ => ⟨List.Pairwise.nil, fun _ hm => (nomatch hm)⟩⟩, h2, h3, h4⟩

/-- the same where the top left finished generators (o_head chose holds_openN): nothing may have changed at all and no generator may be left -/
theorem attachN {l : OpenLaw} {n : Nat} {q : Program} {loose : List Str} {XP : (Str → Option Value) → Heap → Prop} {YP : World → Heap → Prop} {d : DefRec} {x : Str}
    (hn : l.most = some n) (hdf : d.params.defaults = [])
    (hbind : ∀ pm cd doc v : Value, bindArgs (docDef d.name d.params d.body d.scope pm cd doc) ⟨[v], []⟩ = pure [(x, v)])
    (hx : d.scope.names.lookup x = some .local ∨ d.scope.names.lookup x = some .cell)
    (hk : d.scope.kind = .function) (hco : d.scope.isCoroutine = false) (hgen : d.scope.isGenerator = false)
    (body : ∀ (w : World) (s₀ s₁ s : Shared) (mg mb : Str → Option Value) (fa : Addr) (o : Obj) (pm cd doc : Value) (a : Addr) (vs : List Value) (ns : List Int),
      Ground q loose [] XP w s₀ mg mb s₁.heap → YP w s₁.heap →
      s₁.heap.get? fa = some o → o.data = .func (docDef d.name d.params d.body d.scope pm cd doc) → s₁.heap.CodeRec cd d.name → mg d.name = some (.ref fa) →
      s₁.heap.get? a = some { cls := .type "list", data := .seq vs.toArray } → IntsAre vs ns → ns.length ≤ n →
      s.gens = #[] → s.os = s₁.os →
      Fr s₁.heap s₁.heap.objs.size s.heap (bindL (envOfC d.name d.scope s₁.heap.objs.size fa cd).kindOf [(x, .ref a)] fun _ => none) →
      Cl s₁.heap.objs.size (cellsFrom (s₁.heap.objs.size + 1) d.scope.names []) s.heap (bindC (envOfC d.name d.scope s₁.heap.objs.size fa cd).kindOf [(x, .ref a)] fun _ => none) →
      wpAny (model l.prog w) (callerA.deeper (envOfC d.name d.scope s₁.heap.objs.size fa cd)) (execs d.body (envOfC d.name d.scope s₁.heap.objs.size fa cd))
        (fun f s' => f = .ret (.bool true) ∧ (∀ b o, s₁.heap.get? b = some o → s'.heap.get? b = some o) ∧ s'.os = s₁.os ∧ s'.gens = #[]) (fun _ _ => False) s) :
    WalkN q loose XP YP l.row.toRowW d [] (fun f vs => PySem.call f vs) := by
  intro w s₀ s₁ mg mb G Y fa o pm cd doc dV kV ho hd hcd hD hmg hg args vals as hpre hlay hrd hwl hlo
  obtain rfl : dV = .none := Dflts.none hD hdf
  obtain rfl : kV = .none := Dflts.noKw hD
  obtain ⟨a, vs, ns, rfl, rfl, hobj, hints, hlen⟩ := script_of hn hpre hwl
  refine enter_callW ?_
  refine call_cells_ret (o := o) (by rw [depth_caller]; decide) ho (fd_plain hd) G.T.nolimit hcd (hbind pm cd doc (.ref a)) (fun y hy => ?_) (fun h₁ tk F X => ?_) hco hgen hk
  · obtain rfl : y = (x, Value.ref a) := List.mem_singleton.mp hy
    rcases hx with e | e
    · exact .inl e
    · exact .inr ⟨e, cellsFrom_some _ _ _ (.inl e)⟩
  · refine wpAny_mono (body w s₀ s₁ { s₁ with heap := h₁, toks := tk } mg mb fa o pm cd doc a vs ns G Y ho (fd_plain hd) hcd hmg hobj hints hlen hg rfl F X) (fun f s' hq => ?_) (fun _ _ hq => hq)
    obtain ⟨rfl, h2, h3, h4⟩ := hq
    exact ⟨.inl ⟨.bool true, .bool true, [], rfl, fun _ => rfl, .bool true, post_true l _, fun _ => ⟨List.Pairwise.nil, fun _ hm => (nomatch hm)⟩⟩, h2, h3, h4⟩

/-! ### rules over ANY heap (no ledger) from facts about the written part K: the library's own take a ledger (News) for what they write -/
section
variable {prog : Program} {w : World} {A : Around} {E : Value → Shared → Prop} {s : Shared} {K : Frag}

/-- a def of the module, or a method (qual 'C.m'), entered: the frame is the next address; cells behind it -/
theorem call_fn {R : Result → Shared → Prop} {name qual : Str} {params : Arguments} {body : List Stmt} {scope : Scope} {dV kV doc pm cdv ct oc : Value} {an od : Option Addr} {osl : Array (Option Value)} {f : Addr} {args : Args} {binds : List (Str × Value)}
    (X : K.In s.heap) (hlim : s.heap.NoLimit) (ho : K.lookup f = some ⟨oc, od, .func (fnOf name qual params body scope dV kV doc pm an cdv ct), osl⟩) (hcd : codeIn K cdv qual = true) (hroom : A.depth < recursionLimit)
    (hbind : BindsTo s (fnOf name qual params body scope dV kV doc pm an cdv ct) args binds)
    (hkind : (binds.all fun y => scope.names.lookup y.1 == some .local || scope.names.lookup y.1 == some .cell) = true)
    (h : ∀ s₁, InCallC s s.heap.objs.size (bindL (envOfC qual scope s.heap.objs.size f cdv).kindOf binds fun _ => none) (cellsFrom (s.heap.objs.size + 1) scope.names [])
        (bindC (envOfC qual scope s.heap.objs.size f cdv).kindOf binds fun _ => none) s₁ →
      wpAny (model prog w) (A.deeper (envOfC qual scope s.heap.objs.size f cdv)) (execs body (envOfC qual scope s.heap.objs.size f cdv))
        (fun fl s' => R (.ok (.ret (match fl with | .ret v => v | _ => .none))) s')
        (fun e s' => wpAny (model prog w) (A.deeper (envOfC qual scope s.heap.objs.size f cdv)) (leaving (envOfC qual scope s.heap.objs.size f cdv) e) (fun _ s'' => R (.error e) s'') (fun e' s'' => R (.error e') s'') s') s₁)
    (hco : scope.isCoroutine = false) (hgen : scope.isGenerator = false) (hk : scope.kind = .function) : codeAny (model prog w) A (.call (.ref f) args) R s := by
  refine codeAny_call_function hroom (X _ _ ho) rfl hco hgen rfl (codeRec_of X hcd) (hbind _ _ _ _ ?_)
  refine wpAny_newFunctionEnv_cells hk (kindsX hkind _) fun env he s₁ x => ?_
  subst he
  exact ⟨hlim.keeps x.toInCall.keep, codeAny_func (h s₁ x)⟩

/-- C(..): dict at size, instance at size + 1, then __init__ -/
theorem make_obj {R : Result → Shared → Prop} {C fI : Addr} {rest : List Value} {kw : List (Str × Value)}
    (X : K.In s.heap) (hm : makesIn K C = true) (hi : findIn K (.ref C) "__init__" = some (some (.ref fI))) (hf : isFn K (.ref fI) = true)
    (h : codeAny (model prog w) (A.under (.builtin "type.__call__" ⟨.ref C :: rest, kw⟩)) (.call (.ref fI) ⟨.ref (s.heap.objs.size + 1) :: rest, kw⟩) (InitBack (s.heap.objs.size + 1) R)
      { s with heap := (s.heap.push emptyDict).push (instObj C s.heap.objs.size) }) : codeAny (model prog w) A (.call (.ref C) ⟨rest, kw⟩) R s := by
  obtain ⟨hh, g, d, t, os⟩ := s
  exact make_core (makes_of X hm) (looks_findIn X hi) (fun self => bind_fn X self (beq_iff_eq.mp hf)) (.inl rfl) h

/-- x.name where the instance's dict holds the name and the class does not -/
theorem get_field {x C : Addr} {ox : Obj} {es : List DictEntry} {n : Nat} {name : Str} {expr : Bool} {v : Value} {Q : Value → Shared → Prop}
    (X : K.In s.heap) (I : PySem.W.InstAt s.heap x ox C (some (dictOf es n))) (hg : plainGet K C name = true) (hh : hasDictIn K C = true) (ha : findIn K (.ref C) name = some none)
    (hl : getL name es = some (some v)) (hv : handedIn v = true) (h : Q v { s with toks := s.toks + 1 }) : wpAny (model prog w) A (getAttr (.ref x) name expr) Q E s :=
  get_value X I (plainGet_of hg).1 (findObj_own hh ha rfl hl) hv h

/-- x.m(..): the method found in the class -/
theorem get_method {x C f : Addr} {ox : Obj} {es : List DictEntry} {n : Nat} {name : Str} {pl : Sem Bool} {Q : Value × List Value → Shared → Prop}
    (X : K.In s.heap) (I : PySem.W.InstAt s.heap x ox C (some (dictOf es n))) (hg : plainGet K C name = true) (hf : findIn K (.ref C) name = some (some (.ref f))) (ht : isFn K (.ref f) = true)
    (hl : getL name es = some none) (h : Q (.ref f, [.ref x]) s) : wpAny (model prog w) A (getMethod (.ref x) name pl) Q E s :=
  method_fn X I (plainGet_of hg).1 (plainGet_of hg).2 hf (beq_iff_eq.mp ht) (by show (lookIn name (dictOf es n)).map _ = _; rw [lookIn_dict, hl]; rfl) h

/-! the whole heap as the ledger: makes every rule that writes through a ledger a rule over any heap -/
def noObjs (h : Heap) : Heap := { h with objs := #[] }
theorem noObjs_get (h : Heap) (b : Addr) : (noObjs h).get? b = none := by
  cases e : (noObjs h).get? b with
  | none => rfl
  | some o => exact absurd (Heap.lt_size e) (Nat.not_lt_zero _)
def ledger (h : Heap) (L d : Addr) : List (Addr × Obj) := (List.range h.objs.size).filterMap fun a => if a = L ∨ a = d then none else (h.get? a).map fun o => (a, o)
theorem mem_ledger {h : Heap} {L d a : Addr} {o : Obj} : (a, o) ∈ ledger h L d ↔ a ≠ L ∧ a ≠ d ∧ h.get? a = some o := by
  unfold ledger
  rw [List.mem_filterMap]
  constructor
  · rintro ⟨b, _, e⟩
    split at e
    · cases e
    · rename_i hb
      obtain ⟨o', ho, e'⟩ := Option.map_eq_some_iff.mp e
      cases e'
      exact ⟨fun q => hb (.inl q), fun q => hb (.inr q), ho⟩
  · rintro ⟨n1, n2, ho⟩
    refine ⟨a, List.mem_range.mpr (Heap.lt_size ho), ?_⟩
    rw [if_neg (show ¬ (a = L ∨ a = d) from fun q => q.elim n1 n2), ho] <;> rfl
theorem news_ledger {h : Heap} {L d : Addr} {od : Obj} (hne : d ≠ L) (ho : h.get? d = some od) : News (noObjs h) L h ([] ++ (d, od) :: ledger h L d) := by
  rintro ⟨a, o⟩ hp
  rcases List.mem_cons.mp hp with e | hp
  · cases e
    exact ⟨ho, hne, noObjs_get _ _⟩
  · obtain ⟨n1, n2, e⟩ := mem_ledger.mp hp
    exact ⟨e, n1, noObjs_get _ _⟩
theorem fr_all {h : Heap} {L : Addr} {m : Str → Option Value} (n : h.Ns L m) : Fr (noObjs h) L h m :=
  ⟨n, fun b o e => (by rw [noObjs_get] at e; cases e), Nat.zero_le _⟩
/-- Upd of the head entry (for append_K, setItem_K ..) -/
theorem upd_ledger {h : Heap} {L d : Addr} {o o' : Obj} : Upd d o o' ((d, o) :: ledger h L d) ((d, o') :: ledger h L d) :=
  .head fun ⟨_, _⟩ hp => (mem_ledger.mp hp).2.1

/-- x.name = v over any heap: L is any namespace of the heap (the frame's, say): its map stays, its object is not told; all else but the dict stays -/
theorem set_field {x C dx L : Addr} {ox : Obj} {m : Str → Option Value} {es es' : List DictEntry} {n n' : Nat} {name : Str} {v : Value} {Q : Unit → Shared → Prop}
    (X : K.In s.heap) (I : PySem.W.InstAt s.heap x ox C (some (dictOf es n))) (hd : ox.dict = some dx) (hL : s.heap.Ns L m) (hne : dx ≠ L)
    (hs : findIn K (.ref C) "__setattr__" = some (some (.builtin "object.__setattr__"))) (hp : plainOver K C = true) (ht : takerIn K C name = some none) (hh : hasDictIn K C = true) (hl : (getL name es).isSome = true)
    (e : (putL name (PyData.keyHash w.params name) (.str name (s.toks + 1)) v es, putN name es n) = (es', n')) (hz : es'.length ≤ 1000)
    (h : ∀ h' : Heap, h'.Ns L m → h'.get? dx = some (dictOf es' n') → (∀ b o, b ≠ dx → b ≠ L → s.heap.get? b = some o → h'.get? b = some o) → Q () { s with heap := h', toks := s.toks + 2 }) :
    wpAny (model prog w) A (setAttr (.ref x) name v) Q E s := by
  obtain ⟨e1, e2⟩ := Prod.mk.inj e
  have hdx : s.heap.get? dx = some (dictOf es n) := by
    have := I.dict
    rw [hd] at this
    exact this
  refine set_plain X I hs (osa_dict (s := { s with toks := s.toks + 1 }) (h₀ := noObjs s.heap) (L := L) (m := m) (od := dictOf es n) (od' := dictOf es' n') (es := es') (n := n') (pre := []) (post := ledger s.heap L dx)
    (fr_all hL) (news_ledger hne hdx) X I hd hp ht hh hl (fun _ q => nomatch q) (fun ⟨_, _⟩ q => (mem_ledger.mp q).2.1) (by rw [putName_dict, e1, e2]) rfl hz fun h' F' N' => ?_)
  exact h h' F'.ns (N'.get (List.Mem.head _)) fun b o n1 n2 ho => N'.get (List.Mem.tail _ (mem_ledger.mpr ⟨n2, n1, ho⟩))
end
end Att

namespace L2
open PySem PySem.Spec PyProof.Rows

theorem vals_ints : ∀ {vs : List Value} {ns : List Int}, IntsAre vs ns → Vals (ns.map V.int) vs
  | _, _, .nil => .nil
  | _, _, .cons n t h => .cons ⟨t, rfl⟩ (vals_ints h)

/-- nothing is tracked but the script, known to the object (or it is an object of the module) -/
def Only (H : Hp) : Prop := ∀ b, H b = none ∨ ∃ o xs, H b = some (.frz o (.lst xs))

/-- THE HEAD: the law's promise, at the heap behind the top. F, the promise of the law's def, may use that base is part of the heap (so K.In base, base.Ns mainGlobals mg stand in Mod) -/
theorem law_call {P : Program} {w : World} {K : PySem.W.Frag} {mg mb : Str → Option Value} {CX : CXT} {k : Nat} {fa a : Addr} {fd : FuncData} {x : Str} {sp : Sp} {s₁ : Shared} {vs : List Value} {ns : List Int}
    (KX : K.In s₁.heap) (hns : s₁.heap.Ns mainGlobals mg) (hb : s₁.heap.Ns builtinsNs mb) (hbb : ∀ x : Str, x ≠ "__name__" → mb x = bootBuiltins x) (hlim : s₁.heap.NoLimit) (hg : s₁.gens = #[])
    (ha : s₁.heap.get? a = some { cls := .type "list", data := .seq vs.toArray }) (hi : IntsAre vs ns) (hl : ns.length ≤ sizeLine) (hr : Room k callerA)
    (F : ∀ base : Heap, K.In base → base.Ns mainGlobals mg → FnOk P w K mg base CX k fa fd [x] sp) (hbind : ∀ (s : Shared) (u : Value), BindsTo s fd ⟨[u], []⟩ [(x, u)])
    (hsp : ∀ H : Hp, Only H → SqL K H a (ns.map V.int) → sp [.ref a] H (fun v _ => v = .bl true) fun _ _ _ => False)
    (hCX : ∀ H e s', CX [] H s₁ (fun _ _ _ => False) e s' → False) :
    codeAny (model P w) callerA (.call (.ref fa) ⟨[.ref a], []⟩) (fun r s' => r = .ok (.ret (.bool true)) ∧ OldK s₁.heap s'.heap ∧ s'.os = s₁.os ∧ AllBare s'.gens) s₁ := by
  have rv := vals_ints hi
  have lenV := hi.length
  -- from an abstract heap in which nothing but the script may be tracked
  have core : ∀ H : Hp, Only H → SqL K H a (ns.map V.int) → HOk P w H s₁.heap → (∀ b, H b ≠ none → b = a) → (H a ≠ none → K.lookup a = none) →
      codeAny (model P w) callerA (.call (.ref fa) ⟨[.ref a], []⟩) (fun r s' => r = .ok (.ret (.bool true)) ∧ OldK s₁.heap s'.heap ∧ s'.os = s₁.os ∧ AllBare s'.gens) s₁ := by
    intro H hO hS hok hA hK
    have base_of : ∀ {b : Addr} {o : Obj}, s₁.heap.get? b = some o → H b = none → (hidT s₁.heap H).get? b = some o := fun e n => hidT_get e n
    have noA : ∀ {b : Addr} {o : Obj} {es : Array DictEntry} {ep : Nat}, s₁.heap.get? b = some o → o.data = .dict es ep → H b = none := fun {b o es ep} e d => by
      cases q : H b with
      | none => rfl
      | some u =>
        have e' : b = a := hA b (by rw [q]; simp)
        subst e'
        rw [ha] at e; cases e
        have d' : Data.seq vs.toArray _ = Data.dict es ep := d
        cases d'
    have nsK : ∀ {b : Addr} {m : Str → Option Value}, s₁.heap.Ns b m → (hidT s₁.heap H).Ns b m := fun {b m} ⟨o, es, ep, e, d, r⟩ => ⟨o, es, ep, base_of e (noA e d), d, r⟩
    have hKb : K.In (hidT s₁.heap H) := fun b o e => base_of (KX b o e) (by
      cases q : H b with
      | none => rfl
      | some u =>
        have e' : b = a := hA b (by rw [q]; simp)
        subst e'
        rw [hK (by rw [q]; simp)] at e; cases e)
    have hM : Mod K mg (hidT s₁.heap H) := ⟨hKb, nsK hns, ⟨mb, nsK hb, hbb⟩, let ⟨mc, h1, h2⟩ := hlim; ⟨mc, nsK h1, h2⟩⟩
    have e0 : Env0 P w K mg (hidT s₁.heap H) callerA [] s₁ H := ⟨rfl, hM, fun b o e => of_hidT e, Nat.le_of_eq (hidT_size _ _), trivial, fun b hb => absurd (show b ∈ ([] : List Addr) from hb) (by simp), hok, .of_eq hg⟩
    refine codeAny_mono ((F _ hKb (nsK hns)).run callerA [] s₁ H ⟨[.ref a], []⟩ [.ref a] [.ref a] _ _ hr e0 (hbind s₁ (.ref a)) (.cons rfl .nil) (hsp H hO hS)) fun r s' h => ?_
    cases r with
    | error e => exact (hCX H e s' h).elim
    | ok fl =>
      cases fl with
      | next => exact False.elim h
      | brk => exact False.elim h
      | cont => exact False.elim h
      | ret u =>
        obtain ⟨v, H', os, bare, un, hok', r', q⟩ := h
        have q' : v = .bl true := q
        subst q'
        obtain rfl : u = Value.bool true := r'
        refine ⟨rfl, OldK.of_keep fun b o e => ?_, os, bare⟩
        cases q : H b with
        | none => exact un.keep b o e q (by intro z; exact absurd (show b ∈ ([] : List Addr) from z) (by simp)) (by simp)
        | some u =>
          rcases hO b with z | ⟨ob, xs, z⟩
          · rw [q] at z; cases z
          · have z2 := un.frzs b ob _ z
            obtain ⟨e1, _⟩ := hok b _ z
            obtain ⟨e2, _⟩ := hok' b _ z2
            rw [e] at e1; cases e1
            exact e2
  cases hk : K.lookup a with
  | some o =>
    -- the script is one of the module's own objects
    have e := KX a o hk
    rw [ha] at e
    cases e
    refine core (fun _ => none) (fun _ => .inl rfl) (.inr ⟨_, vs.toArray, _, hk, rfl, rfl, rfl, by rw [List.size_toArray, lenV]; exact hl, by simpa using rv⟩) (fun b u z => by have z' : (none : Option HO) = some u := z; cases z') (fun b z => absurd rfl z) fun z => absurd rfl z
  | none =>
    refine core (fun b => if b = a then some (.frz { cls := .type "list", data := .seq vs.toArray } (.lst (ns.map V.int))) else none) (fun b => ?_) (.inl (.inr ⟨{ cls := .type "list", data := .seq vs.toArray }, if_pos rfl⟩)) (fun b u z => ?_) (fun b z => ?_) fun _ => hk
    · by_cases hb : b = a
      · exact .inr ⟨_, _, if_pos hb⟩
      · exact .inl (if_neg hb)
    · by_cases hb : b = a
      · have z' := (if_pos hb).symm.trans z
        cases z'
        subst hb
        exact ⟨ha, by rw [List.length_map]; exact hl, vs, _, rv, ha⟩
      · have z' := (if_neg hb).symm.trans z
        cases z'
    · by_cases hb : b = a
      · exact hb
      · exact absurd (if_neg hb) z
end L2

namespace L2
open PySem PySem.Spec PyProof.Rows

abbrev KOf {K : PySem.W.Frag} {h : Heap} (_ : K.In h) : PySem.W.Frag := K

/-- the goal that k_head leaves (case hc), from the law's promise. F gives the function object fd (K's own) once, then the promise over every base -/
theorem walk_of {l : PySem.W.OpenLaw} {n k : Nat} {q : Program} {loose : List Str} {XP : (Str → Option Value) → Heap → Prop} {YP : World → Heap → Prop} {d : DefRec} {K : Params → PySem.W.Frag} {CX : World → CXT} {sp : World → Sp} {x : Str}
    (hn : l.most = some n) (hn2 : n ≤ sizeLine) (hdf : d.params.defaults = []) (hr : Room k callerA)
    (hY : ∀ (w : World) (h : Heap), YP w h → (K w.params).In h)
    (F : ∀ (w : World) (mg : Str → Option Value) (fa : Addr) (h : Heap), (K w.params).In h → h.Ns mainGlobals mg → mg d.name = some (.ref fa) →
      ∃ fd : FuncData, (∀ (s : Shared) (u : Value), BindsTo s fd ⟨[u], []⟩ [(x, u)]) ∧
        ∀ base : Heap, (K w.params).In base → base.Ns mainGlobals mg → FnOk l.prog w (K w.params) mg base (CX w) k fa fd [x] (sp w))
    (hsp : ∀ (w : World) (H : Hp) (a : Addr) (ns : List Int), ns.length ≤ n → Only H → SqL (K w.params) H a (ns.map V.int) → sp w [.ref a] H (fun v _ => v = .bl true) fun _ _ _ => False)
    (hCX : ∀ (w : World) (H : Hp) (s : Shared) (e : Value) (s' : Shared), CX w [] H s (fun _ _ _ => False) e s' → False) :
    PySem.W.WalkO q loose XP YP l.row.toRowW d [] (fun f vs => PySem.call f vs) := by
  refine Att.attach_call hn hdf fun w s₀ s₁ mg mb fa o pm cd doc a vs ns G Y ho hd hcd hmg hobj hints hlen hg => ?_
  have KX := hY w _ Y
  obtain ⟨fd, hb, hF⟩ := F w mg fa _ KX G.T.g hmg
  exact law_call KX G.T.g G.T.b G.T.builtins G.T.nolimit hg hobj hints (Nat.le_trans hlen hn2) hr hF hb (fun H hO hS => hsp w H a ns hlen hO hS) fun H e s' => hCX w H s₁ e s'
/-- the same where the promise hangs on the written part alone: (sp := My.sp_law), no hole under a binder -/
theorem walk_ofK {l : PySem.W.OpenLaw} {n k : Nat} {q : Program} {loose : List Str} {XP : (Str → Option Value) → Heap → Prop} {YP : World → Heap → Prop} {d : DefRec} {K : Params → PySem.W.Frag} {CX : CXT} {sp : PySem.W.Frag → Sp} {x : Str}
    (hn : l.most = some n) (hn2 : n ≤ sizeLine) (hdf : d.params.defaults = []) (hr : Room k callerA)
    (hY : ∀ (w : World) (h : Heap), YP w h → (K w.params).In h)
    (F : ∀ (w : World) (mg : Str → Option Value) (fa : Addr) (h : Heap), (K w.params).In h → h.Ns mainGlobals mg → mg d.name = some (.ref fa) →
      ∃ fd : FuncData, (∀ (s : Shared) (u : Value), BindsTo s fd ⟨[u], []⟩ [(x, u)]) ∧
        ∀ base : Heap, (K w.params).In base → base.Ns mainGlobals mg → FnOk l.prog w (K w.params) mg base CX k fa fd [x] (sp (K w.params)))
    (hsp : ∀ (K : PySem.W.Frag) (H : Hp) (a : Addr) (ns : List Int), ns.length ≤ n → Only H → SqL K H a (ns.map V.int) → sp K [.ref a] H (fun v _ => v = .bl true) fun _ _ _ => False)
    (hCX : ∀ (H : Hp) (s : Shared) (e : Value) (s' : Shared), CX [] H s (fun _ _ _ => False) e s' → False) :
    PySem.W.WalkO q loose XP YP l.row.toRowW d [] (fun f vs => PySem.call f vs) :=
  walk_of (K := K) (CX := fun _ => CX) (sp := fun w => sp (K w.params)) hn hn2 hdf hr hY F (fun w H a ns h1 h2 h3 => hsp (K w.params) H a ns h1 h2 h3) fun _ H s e s' => hCX H s e s'
end L2

/- THE LAST THEOREM (shape; LID, My.* are yours):
   My.Adr: a structure of the addresses that your layer names (classes, functions); My.Txt K t: a structure (Prop) of the equations over K;
   My.txt_mk : {K} {implicit addresses ..} (e1 : nsIn K mainGlobals "law" = some (some (.ref f))) (e2 : K.lookup f = some ⟨oc, od, .func (fnOf "law" "law" params body scope dV kV doc pm an cdv ct), sl⟩) (e3 : codeIn K cdv "law" = true) .. : ∃ t, My.Txt K t

set_option maxRecDepth 100000 in
set_option maxHeartbeats 0 in
theorem PySem.Challenge.cw_LID_holds : PySem.Challenge.rw_LID.Holds := by
  w_on; o_law; k_head; (case hw => w_witness2)
  k_fill
  refine L2.walk_of (l := PySem.Challenge.rw_LID) (n := 63) (k := 40) (x := "script") (CX := fun w => ..) (sp := fun _ => My.sp_law) rfl (by decide) rfl ⟨rfl, by decide, by decide⟩ (fun w h Y => PySem.W.kIn_of Y) ?F ?S ?C
  case F =>
    intro w mg fa h KX G hmg
    have T : ∃ t, My.Txt (L2.KOf KX) t := by
      dsimp only [L2.KOf]                          -- K must stand as «<heap const> w.params» for k_is
      refine' My.txt_mk ?e1 ?e2 ?e3 ..
      (case e1 => PySem.W.k_is)                    -- in the order: a name -> its address -> its object -> its parts
      (case e2 => PySem.W.k_is)
      ..
    obtain ⟨t, T⟩ := T
    have e0 := hmg.symm.trans (PySem.W.mg_of KX G T.law)
    cases e0                                       -- fa is the law's own address
    exact ⟨_, fun s u => .of_eq rfl, fun base kb nb => My.law_fn T kb nb⟩     -- if «.of_eq rfl» comes too early: refine' ⟨_, ?b, fun base kb nb => My.law_fn T kb nb⟩; exact fun s u => .of_eq rfl
  case S => exact fun w H a ns hl hO hS => ..
  case C => exact ..
(the tactic k_is has no namespace: write k_is) -/

/-! SHORT WORDS over the layer: a def of the text, its body, what a loop and a test want. -/
namespace L2
open PySem PySem.Spec PyProof.Rows

/-! ### the text by places -/
/-- the j-th statement of a class's body -/
def inClass (s : Stmt) (j : Nat) : Stmt := match s with
  | .ClassDef _ _ _ body _ _ _ _ _ _ _ => body.getD j (.Pass ⟨0, 0, 0, 0⟩)
  | _ => .Pass ⟨0, 0, 0, 0⟩
def defArgs (s : Stmt) : Arguments := match s with
  | .FunctionDef _ a _ _ _ _ _ _ _ _ => a
  | _ => { posonlyargs := [], args := [], vararg := none, kwonlyargs := [], kw_defaults := [], kwarg := none, defaults := [] }
def defBody (s : Stmt) : List Stmt := match s with
  | .FunctionDef _ _ b _ _ _ _ _ _ _ => b
  | _ => []
def defScope (s : Stmt) : Scope := match s with
  | .FunctionDef _ _ _ _ _ _ sc _ _ _ => sc
  | _ => { kind := .function, names := [], isGenerator := false, isCoroutine := false }

/-! ### no exception leaves a def -/
abbrev CX0 : CXT := fun _ _ _ _ _ _ => False
abbrev E0 : XK := fun _ _ _ => False
theorem pass0 {X : Cx} : Passes CX0 X E0 := fun _ _ _ _ _ _ _ h => h.elim

/-! ### a def (or method) of the text as it stands behind the top -/
structure Fun (K : PySem.W.Frag) (x qual : Str) (st : Stmt) (f : Addr) (fd : FuncData) : Prop where
  ex : ∃ (oc : Value) (od : Option Addr) (kV doc pm : Value) (an : Option Addr) (cdv ct : Value) (osl : Array (Option Value)),
    fd = PySem.W.fnOf x qual (defArgs st) (defBody st) (defScope st) .none kV doc pm an cdv ct ∧ K.lookup f = some ⟨oc, od, .func fd, osl⟩ ∧ PySem.W.codeIn K cdv qual = true
  kp : PySem.W.keepIn K (.ref f) = true
section
variable {P : Program} {w : World} {K : PySem.W.Frag} {mg : Str → Option Value} {base : Heap}
/-- THE RULE for a def: its body as a term of rules, and the reading of that term -/
theorem Fun.ok {x qual : Str} {st : Stmt} {f : Addr} {fd : FuncData} {N ps : List Str} {k : Nat} {sp : Sp} (F : Fun K x qual st f fd) (S : FnScope N ps (defScope st)) (len : ∀ vs H Q E, sp vs H Q E → vs.length = ps.length)
    (hbody : ∀ (cdv : Value) (A : Around) (outer : List Env) (s : Shared) (H : Hp) (vs : List V) (Q : VK) (E : XK), Room k (A.deeper (envOfC qual (defScope st) s.heap.objs.size f cdv)) → sp vs H Q E →
      ∃ t, PSs (cxOf CX0 P w K mg base N qual (defScope st) f cdv A outer s H E).nox (defBody st) t ∧ t { nx := fun _ H' => Q .non H', rt := Q } (start N vs) H) : FnOk P w K mg base CX0 (k + 1) f fd ps sp := by
  obtain ⟨oc, od, kV, doc, pm, an, cdv, ct, osl, rfl, lk, hcd⟩ := F.ex
  refine fn_of lk hcd S len fun A outer s H vs Q E hr hsp => ?_
  obtain ⟨t, h, q⟩ := hbody cdv A outer s H vs Q E hr hsp
  exact ⟨t, h.nox, q⟩
/-- how its arguments bind (no defaults): h is «fun _ _ _ _ _ _ us hl => match us, hl with | [_, _], _ => rfl», one _ a parameter -/
theorem Fun.binds {x qual : Str} {st : Stmt} {f : Addr} {fd : FuncData} {ps : List Str} (F : Fun K x qual st f fd)
    (h : ∀ (kV doc pm : Value) (an : Option Addr) (cdv ct : Value) (us : List Value), us.length = ps.length → bindArgs (PySem.W.fnOf x qual (defArgs st) (defBody st) (defScope st) .none kV doc pm an cdv ct) ⟨us, []⟩ = pure (ps.zip us)) : Binds K fd ps [] := by
  obtain ⟨oc, od, kV, doc, pm, an, cdv, ct, osl, rfl, lk, hcd⟩ := F.ex
  exact .all (h kV doc pm an cdv ct)
theorem fun_mk {x qual : Str} {st : Stmt} {f : Addr} {oc : Value} {od an : Option Addr} {osl : Array (Option Value)} {kV doc pm cdv ct : Value} (l : K.lookup f = some ⟨oc, od, .func (PySem.W.fnOf x qual (defArgs st) (defBody st) (defScope st) .none kV doc pm an cdv ct), osl⟩)
    (c : PySem.W.codeIn K cdv qual = true) (k : PySem.W.keepIn K (.ref f) = true) : Fun K x qual st f (PySem.W.fnOf x qual (defArgs st) (defBody st) (defScope st) .none kV doc pm an cdv ct) := ⟨⟨oc, od, kV, doc, pm, an, cdv, ct, osl, rfl, l, c⟩, k⟩
end
theorem hu_of {A : Around} {k : Nat} (hr : Room k A) : A.units + 1 < cLine := Nat.lt_of_le_of_lt (Nat.add_le_add_left (by decide : 1 ≤ 64) _) hr.units
theorem small1000 {n : Nat} (h : n ≤ 1000) : n < sizeLine := Nat.lt_of_le_of_lt h (by decide)

/-! ### expressions in short: the name that stands in the i-th slot -/
section
variable {X : Cx}
theorem pv (i : Nat) {x : Str} {pos : Pos} (hN : X.N[i]? = some x := by rfl) (hv : Vis X.env.scope x := by first | exact Or.inl rfl | exact Or.inr (Or.inl rfl) | exact Or.inr (Or.inr rfl)) (hd : (x == ("__debug__" : Str)) = false := by decide)
    (hcd : (x == ("__classdict__" : Str)) = false := by decide) : PE X (.Name x pos) (tVar i) := pe_var hN hv hd hcd
end

/-! ### tests -/
theorem iteF {A B : Prop} (h : B) : if false = true then A else B := by
  rw [if_neg Bool.false_ne_true]
  exact h
theorem iteT {A B : Prop} (h : A) : if true = true then A else B := by
  rw [if_pos rfl]
  exact h
theorem ite2 {c A B : Prop} [Decidable c] (h1 : c → A) (h2 : ¬ c → B) : if c then A else B := by
  by_cases h : c
  · rw [if_pos h]
    exact h1 h
  · rw [if_neg h]
    exact h2 h
theorem iteNS {c A B : Prop} [Decidable c] (hc : c) (h : B) : if (!decide c) = true then A else B := by
  rw [decide_eq_true hc]
  exact iteF h

/-! ### heaps -/
/-- all that was tracked is as it was -/
def Same (H H' : Hp) : Prop := ∀ b o, H b = some o → H' b = some o
theorem Same.refl (H : Hp) : Same H H := fun _ _ h => h
theorem Same.trans {H H1 H2 : Hp} (a : Same H H1) (b : Same H1 H2) : Same H H2 := fun c o h => b c o (a c o h)
theorem Same.free {H H' : Hp} (e : Same H H') {l : Addr} (h : H' l = Option.none) : H l = Option.none := by
  cases q : H l with
  | none => rfl
  | some o =>
    rw [e l o q] at h
    cases h
theorem Same.seq {K : PySem.W.Frag} {H H' : Hp} {a : Addr} {xs : List V} (e : Same H H') (h : SqL K H a xs) : SqL K H' a xs := by
  rcases h with (h | ⟨o, h⟩) | h
  · exact .inl (.inl (e _ _ h))
  · exact .inl (.inr ⟨o, e _ _ h⟩)
  · exact .inr h

end L2
set_option Elab.async false
set_option linter.all false
set_option maxRecDepth 100000
namespace L2
open PySem PySem.Spec PyProof.Rows

/-! ### plain data: what a value says, by the heap -/
inductive D where
  | non | bl (b : Bool) | int (i : Int) | str (x : Str) | tup (xs : List D) | lst (xs : List D)
mutual
def IsD (K : PySem.W.Frag) (H : Hp) : D → V → Prop
  | .non, v => v = .non
  | .bl b, v => v = .bl b
  | .int i, v => v = .int i
  | .str x, v => v = .str x
  | .tup ds, v => ∃ a vs, v = .ref a ∧ SqT K H a vs ∧ AreD K H ds vs
  | .lst ds, v => ∃ a vs, v = .ref a ∧ SqL K H a vs ∧ AreD K H ds vs
def AreD (K : PySem.W.Frag) (H : Hp) : List D → List V → Prop
  | [], vs => vs = []
  | d :: ds, vs => ∃ v r, vs = v :: r ∧ IsD K H d v ∧ AreD K H ds r
end
mutual
def eqD : D → D → Bool
  | .non, .non => true
  | .bl a, .bl b => a == b
  | .bl a, .int b => (if a then 1 else 0) == b
  | .int a, .bl b => a == (if b then 1 else 0)
  | .int a, .int b => a == b
  | .str a, .str b => a == b
  | .tup xs, .tup ys => eqDs xs ys
  | .lst xs, .lst ys => eqDs xs ys
  | _, _ => false
def eqDs : List D → List D → Bool
  | [], [] => true
  | x :: xs, y :: ys => eqD x y && eqDs xs ys
  | _, _ => false
end
mutual
def dpD : D → Nat
  | .tup xs => dpDs xs + 1
  | .lst xs => dpDs xs + 1
  | _ => 0
def dpDs : List D → Nat
  | [] => 0
  | d :: ds => max (dpD d) (dpDs ds)
end
mutual
theorem eqD_refl : ∀ d : D, eqD d d = true
  | .non => rfl
  | .bl b => by simp [eqD]
  | .int b => by simp [eqD]
  | .str b => by simp [eqD]
  | .tup xs => by simp only [eqD]; exact eqDs_refl xs
  | .lst xs => by simp only [eqD]; exact eqDs_refl xs
theorem eqDs_refl : ∀ d : List D, eqDs d d = true
  | [] => rfl
  | x :: xs => by simp only [eqDs, eqD_refl x, eqDs_refl xs, Bool.and_self]
end
theorem AreD.length {K : PySem.W.Frag} {H : Hp} : ∀ {ds : List D} {vs : List V}, AreD K H ds vs → ds.length = vs.length
  | [], vs, h => by
    have e : vs = [] := h
    subst e
    rfl
  | d :: ds, vs, h => by
    obtain ⟨v, r, e, _, h2⟩ := (show ∃ v r, vs = v :: r ∧ IsD K H d v ∧ AreD K H ds r from h)
    rw [e, List.length_cons, List.length_cons, AreD.length h2]
theorem AreD.get {K : PySem.W.Frag} {H : Hp} : ∀ {ds : List D} {vs : List V} {i : Nat} {d : D}, AreD K H ds vs → ds[i]? = some d → ∃ v, vs[i]? = some v ∧ IsD K H d v
  | [], vs, i, d, _, e => by simp at e
  | d :: ds, vs, 0, d', h, e => by
    obtain ⟨v, r, rfl, h1, _⟩ := (show ∃ v r, vs = v :: r ∧ IsD K H d v ∧ AreD K H ds r from h)
    simp at e; subst e
    exact ⟨v, rfl, h1⟩
  | d :: ds, vs, i + 1, d', h, e => by
    obtain ⟨v, r, rfl, _, h2⟩ := (show ∃ v r, vs = v :: r ∧ IsD K H d v ∧ AreD K H ds r from h)
    obtain ⟨v', e1, h3⟩ := AreD.get (i := i) h2 (by simpa using e)
    exact ⟨v', by simpa using e1, h3⟩
theorem dpDs_mem : ∀ {ds : List D} {d : D}, d ∈ ds → dpD d ≤ dpDs ds
  | d :: ds, d', h => by
    simp only [dpDs]
    rcases List.mem_cons.mp h with e | h
    · subst e; omega
    · have := dpDs_mem h; omega
theorem all_eqDs : ∀ ds es : List D, ((List.range (min ds.length es.length)).all (fun j => eqD (ds.getD j .non) (es.getD j .non)) && ds.length == es.length) = eqDs ds es
  | [], [] => rfl
  | [], e :: es => by simp [eqDs]
  | d :: ds, [] => by simp [eqDs]
  | d :: ds, e :: es => by
    have ih := all_eqDs ds es
    have e1 : min (d :: ds).length (e :: es).length = min ds.length es.length + 1 := by simp only [List.length_cons]; omega
    rw [e1, List.range_succ_eq_map]
    simp only [List.all_cons, List.all_map, eqDs, ← ih, List.length_cons, List.getD_cons_zero]
    have e2 : ((ds.length + 1 == es.length + 1) : Bool) = (ds.length == es.length) := by
      rw [Bool.eq_iff_iff]; simp
    rw [e2, Bool.and_assoc]
    rfl

section
variable {X : Cx} {pins : List (Addr × Obj)} {σ : St} {H : Hp} {s : Shared}
theorem Inv.not_both (I : Inv X pins σ H s) {a : Addr} {xs ys : List V} (h : SqL X.K H a xs) (h' : SqT X.K H a ys) : False := by
  obtain ⟨its, r, ⟨o, n, e, c, _⟩, _⟩ := I.list h
  obtain ⟨its', r', ⟨o', e', c', _⟩, _⟩ := I.tuple h'
  rw [e] at e'; cases e'
  rw [c] at c'
  injection c' with c''
  exact absurd c'' (by decide)
mutual
theorem IsD.inj (I : Inv X pins σ H s) : ∀ (d e : D) (v : V), IsD X.K H d v → IsD X.K H e v → d = e
  | .non, e, v, h, h' => by
    have q : v = .non := h
    subst q
    cases e with
    | non => rfl
    | tup _ => obtain ⟨_, _, z, _⟩ := h'; cases z
    | lst _ => obtain ⟨_, _, z, _⟩ := h'; cases z
    | _ => cases (show V.non = _ from h')
  | .bl b, e, v, h, h' => by
    have q : v = .bl b := h
    subst q
    cases e with
    | bl c => cases (show V.bl b = V.bl c from h'); rfl
    | tup _ => obtain ⟨_, _, z, _⟩ := h'; cases z
    | lst _ => obtain ⟨_, _, z, _⟩ := h'; cases z
    | _ => cases (show V.bl b = _ from h')
  | .int b, e, v, h, h' => by
    have q : v = .int b := h
    subst q
    cases e with
    | int c => cases (show V.int b = V.int c from h'); rfl
    | tup _ => obtain ⟨_, _, z, _⟩ := h'; cases z
    | lst _ => obtain ⟨_, _, z, _⟩ := h'; cases z
    | _ => cases (show V.int b = _ from h')
  | .str b, e, v, h, h' => by
    have q : v = .str b := h
    subst q
    cases e with
    | str c => cases (show V.str b = V.str c from h'); rfl
    | tup _ => obtain ⟨_, _, z, _⟩ := h'; cases z
    | lst _ => obtain ⟨_, _, z, _⟩ := h'; cases z
    | _ => cases (show V.str b = _ from h')
  | .tup ds, e, v, h, h' => by
    obtain ⟨a, vs, rfl, q, ar⟩ := (show ∃ a vs, v = .ref a ∧ SqT X.K H a vs ∧ AreD X.K H ds vs from h)
    cases e with
    | tup es =>
      obtain ⟨a', ws, z, q', ar'⟩ := (show ∃ a' vs, V.ref a = .ref a' ∧ SqT X.K H a' vs ∧ AreD X.K H es vs from h')
      cases z
      have e := I.tuple_inj q q'
      subst e
      rw [AreD.inj I ds es vs ar ar']
    | lst es =>
      obtain ⟨a', ws, z, q', ar'⟩ := (show ∃ a' vs, V.ref a = .ref a' ∧ SqL X.K H a' vs ∧ AreD X.K H es vs from h')
      cases z
      exact (I.not_both q' q).elim
    | non => cases (show V.ref a = _ from h')
    | bl _ => cases (show V.ref a = _ from h')
    | int _ => cases (show V.ref a = _ from h')
    | str _ => cases (show V.ref a = _ from h')
  | .lst ds, e, v, h, h' => by
    obtain ⟨a, vs, rfl, q, ar⟩ := (show ∃ a vs, v = .ref a ∧ SqL X.K H a vs ∧ AreD X.K H ds vs from h)
    cases e with
    | lst es =>
      obtain ⟨a', ws, z, q', ar'⟩ := (show ∃ a' vs, V.ref a = .ref a' ∧ SqL X.K H a' vs ∧ AreD X.K H es vs from h')
      cases z
      have e := I.list_inj q q'
      subst e
      rw [AreD.inj I ds es vs ar ar']
    | tup es =>
      obtain ⟨a', ws, z, q', ar'⟩ := (show ∃ a' vs, V.ref a = .ref a' ∧ SqT X.K H a' vs ∧ AreD X.K H es vs from h')
      cases z
      exact (I.not_both q q').elim
    | non => cases (show V.ref a = _ from h')
    | bl _ => cases (show V.ref a = _ from h')
    | int _ => cases (show V.ref a = _ from h')
    | str _ => cases (show V.ref a = _ from h')
theorem AreD.inj (I : Inv X pins σ H s) : ∀ (ds es : List D) (vs : List V), AreD X.K H ds vs → AreD X.K H es vs → ds = es
  | [], es, vs, h, h' => by
    have q : vs = [] := h
    subst q
    cases es with
    | nil => rfl
    | cons e es => obtain ⟨_, _, z, _⟩ := h'; cases z
  | d :: ds, es, vs, h, h' => by
    obtain ⟨v, r, rfl, h1, h2⟩ := (show ∃ v r, vs = v :: r ∧ IsD X.K H d v ∧ AreD X.K H ds r from h)
    cases es with
    | nil => cases (show v :: r = [] from h')
    | cons e es =>
      obtain ⟨v', r', z, h1', h2'⟩ := (show ∃ v' r', v :: r = v' :: r' ∧ IsD X.K H e v' ∧ AreD X.K H es r' from h')
      cases z
      rw [IsD.inj I d e v h1 h1', AreD.inj I ds es r h2 h2']
end
/-- the scalars among data, as values -/
def flD : D → Option V
  | .non => some .non
  | .bl b => some (.bl b)
  | .int i => some (.int i)
  | .str x => some (.str x)
  | _ => none
theorem IsD.flat {K : PySem.W.Frag} : ∀ {d : D} {x v : V}, flD d = some x → IsD K H d v → v = x ∧ flatV x = true
  | .non, _, _, e, h => by cases e; exact ⟨h, rfl⟩
  | .bl _, _, _, e, h => by cases e; exact ⟨h, rfl⟩
  | .int _, _, _, e, h => by cases e; exact ⟨h, rfl⟩
  | .str _, _, _, e, h => by cases e; exact ⟨h, rfl⟩
theorem eqD_flat : ∀ {d e : D} {x y : V}, flD d = some x → flD e = some y → eqD d e = eqV x y
  | .non, .non, _, _, h, h' => by cases h; cases h'; rfl
  | .non, .bl _, _, _, h, h' => by cases h; cases h'; rfl
  | .non, .int _, _, _, h, h' => by cases h; cases h'; rfl
  | .non, .str _, _, _, h, h' => by cases h; cases h'; rfl
  | .bl _, .non, _, _, h, h' => by cases h; cases h'; rfl
  | .bl _, .bl _, _, _, h, h' => by cases h; cases h'; rfl
  | .bl _, .int _, _, _, h, h' => by cases h; cases h'; rfl
  | .bl _, .str _, _, _, h, h' => by cases h; cases h'; rfl
  | .int _, .non, _, _, h, h' => by cases h; cases h'; rfl
  | .int _, .bl _, _, _, h, h' => by cases h; cases h'; rfl
  | .int _, .int _, _, _, h, h' => by cases h; cases h'; rfl
  | .int _, .str _, _, _, h, h' => by cases h; cases h'; rfl
  | .str _, .non, _, _, h, h' => by cases h; cases h'; rfl
  | .str _, .bl _, _, _, h, h' => by cases h; cases h'; rfl
  | .str _, .int _, _, _, h, h' => by cases h; cases h'; rfl
  | .str _, .str _, _, _, h, h' => by cases h; cases h'; rfl
theorem rel_getElem {xs : List V} {us : List Value} (r : Vals xs us) {j : Nat} (h : j < us.length) {x : V} (e : xs[j]? = some x) : RelV x us[j] := by
  obtain ⟨u, e1, q⟩ := r.get e
  rw [List.getElem?_eq_getElem h] at e1
  cases e1
  exact q
/-- == of two things that are data -/
theorem eqAt_D (I : Inv X pins σ H s) (d e : D) (x y : V) (u v : Value) (A : Around) (hd : IsD X.K H d x) (he : IsD X.K H e y) (rx : RelV x u) (ry : RelV y v) (hu : A.units + dpD d < cLine) (hu2 : A.units < cLine) :
    SeqAt.EqAt A s u v (eqD d e) := by
  cases hfd : flD d with
  | some x' =>
    obtain ⟨rfl, fx⟩ := IsD.flat hfd hd
    cases hfe : flD e with
    | some y' =>
      obtain ⟨rfl, fy⟩ := IsD.flat hfe he
      rw [eqD_flat hfd hfe]
      exact eqAt_V rx ry fx fy
    | none =>
      cases e with
      | tup es =>
        obtain ⟨a, vs, rfl, q, _⟩ := he
        cases ry
        obtain ⟨its, _, ht, _⟩ := I.tuple q
        cases d with
        | non => cases hfd; cases rx; exact SeqAt.EqAt.none_tuple ht hu2
        | bl b => cases hfd; cases rx; exact SeqAt.EqAt.bool_tuple b ht hu2
        | int b => cases hfd; obtain ⟨t, rfl⟩ := rx; exact SeqAt.EqAt.int_tuple b t ht hu2
        | str b => cases hfd; obtain ⟨t, rfl⟩ := rx; exact SeqAt.EqAt.str_tuple b t ht hu2
        | tup _ => cases hfd
        | lst _ => cases hfd
      | lst es =>
        obtain ⟨a, vs, rfl, q, _⟩ := he
        cases ry
        obtain ⟨its, _, hp, _⟩ := I.list q
        have ht := hp.isList
        cases d with
        | non => cases hfd; cases rx; exact SeqAt.EqAt.none_list ht hu2
        | bl b => cases hfd; cases rx; exact SeqAt.EqAt.bool_list b ht hu2
        | int b => cases hfd; obtain ⟨t, rfl⟩ := rx; exact SeqAt.EqAt.int_list b t ht hu2
        | str b => cases hfd; obtain ⟨t, rfl⟩ := rx; exact SeqAt.EqAt.str_list b t ht hu2
        | tup _ => cases hfd
        | lst _ => cases hfd
      | non => cases hfe
      | bl _ => cases hfe
      | int _ => cases hfe
      | str _ => cases hfe
  | none =>
    cases hfe : flD e with
    | some y' =>
      obtain ⟨rfl, fy⟩ := IsD.flat hfe he
      cases d with
      | tup es =>
        obtain ⟨a, vs, rfl, q, _⟩ := hd
        cases rx
        obtain ⟨its, _, ht, _⟩ := I.tuple q
        cases e with
        | non => cases hfe; cases ry; exact SeqAt.EqAt.tuple_none ht hu2
        | bl b => cases hfe; cases ry; exact SeqAt.EqAt.tuple_bool b ht hu2
        | int b => cases hfe; obtain ⟨t, rfl⟩ := ry; exact SeqAt.EqAt.tuple_int b t ht hu2
        | str b => cases hfe; obtain ⟨t, rfl⟩ := ry; exact SeqAt.EqAt.tuple_str b t ht hu2
        | tup _ => cases hfe
        | lst _ => cases hfe
      | lst es =>
        obtain ⟨a, vs, rfl, q, _⟩ := hd
        cases rx
        obtain ⟨its, _, hp, _⟩ := I.list q
        have ht := hp.isList
        cases e with
        | non => cases hfe; cases ry; exact SeqAt.EqAt.list_none ht hu2
        | bl b => cases hfe; cases ry; exact SeqAt.EqAt.list_bool b ht hu2
        | int b => cases hfe; obtain ⟨t, rfl⟩ := ry; exact SeqAt.EqAt.list_int b t ht hu2
        | str b => cases hfe; obtain ⟨t, rfl⟩ := ry; exact SeqAt.EqAt.list_str b t ht hu2
        | tup _ => cases hfe
        | lst _ => cases hfe
      | non => cases hfd
      | bl _ => cases hfd
      | int _ => cases hfd
      | str _ => cases hfd
    | none =>
      by_cases hxy : x = y
      · subst hxy
        have ee := IsD.inj I d e x hd he
        subst ee
        rw [eqD_refl]
        have uv : u = v := by
          cases d with
          | tup ds => obtain ⟨a, _, rfl, _⟩ := hd; cases rx; cases ry; rfl
          | lst ds => obtain ⟨a, _, rfl, _⟩ := hd; cases rx; cases ry; rfl
          | non => cases hfd
          | bl _ => cases hfd
          | int _ => cases hfd
          | str _ => cases hfd
        subst uv
        exact SeqAt.EqAt.same _
      · cases d with
        | tup ds =>
          obtain ⟨a, vs, rfl, q, ar⟩ := hd
          cases rx
          obtain ⟨its, r, ht, _⟩ := I.tuple q
          cases e with
          | tup es =>
            obtain ⟨a', vs', rfl, q', ar'⟩ := he
            cases ry
            obtain ⟨its', r', ht', _⟩ := I.tuple q'
            have hne : a ≠ a' := fun z => hxy (by rw [z])
            have l1 : its.toArray.size = ds.length := by rw [List.size_toArray, ← r.length, ← ar.length]
            have l2 : its'.toArray.size = es.length := by rw [List.size_toArray, ← r'.length, ← ar'.length]
            have main := SeqAt.RcAt.tuples (A := A) (e := fun j => eqD (ds.getD j .non) (es.getD j .non)) ht ht' hu2 (fun j h1 h2 => by
              have j1 : j < ds.length := by omega
              have j2 : j < es.length := by omega
              have e1 : ds[j]? = some ds[j] := List.getElem?_eq_getElem j1
              have e2 : es[j]? = some es[j] := List.getElem?_eq_getElem j2
              obtain ⟨x1, g1, i1⟩ := ar.get e1
              obtain ⟨y1, g2, i2⟩ := ar'.get e2
              have d1 : ds.getD j .non = ds[j] := by simp [j1]
              have d2 : es.getD j .non = es[j] := by simp [j2]
              show SeqAt.EqAt A.in1 s _ _ (eqD (ds.getD j .non) (es.getD j .non))
              rw [d1, d2]
              have hm := dpDs_mem (List.getElem_mem j1)
              have hsz : sizeOf ds[j] < sizeOf (D.tup ds) := by
                have := List.sizeOf_lt_of_mem (List.getElem_mem j1)
                simp only [D.tup.sizeOf_spec]; omega
              have z1 : dpD (D.tup ds) = dpDs ds + 1 := by simp only [dpD]
              refine eqAt_D I ds[j] es[j] x1 y1 _ _ A.in1 i1 i2 (rel_getElem r (by simpa using h1) g1) (rel_getElem r' (by simpa using h2) g2) ?_ ?_
              · show A.units + 1 + dpD ds[j] < cLine
                omega
              · show A.units + 1 < cLine
                omega)
            rw [l1, l2, all_eqDs] at main
            exact SeqAt.EqAt.of_refs hne main
          | lst es =>
            obtain ⟨a', vs', rfl, q', ar'⟩ := he
            cases ry
            obtain ⟨its', r', hp', _⟩ := I.list q'
            exact SeqAt.EqAt.tuple_list ht hp'.isList hu2
          | non => cases hfe
          | bl _ => cases hfe
          | int _ => cases hfe
          | str _ => cases hfe
        | lst ds =>
          obtain ⟨a, vs, rfl, q, ar⟩ := hd
          cases rx
          obtain ⟨its, r, hp, _⟩ := I.list q
          have ht := hp.isList
          cases e with
          | lst es =>
            obtain ⟨a', vs', rfl, q', ar'⟩ := he
            cases ry
            obtain ⟨its', r', hp', _⟩ := I.list q'
            have ht' := hp'.isList
            have hne : a ≠ a' := fun z => hxy (by rw [z])
            have l1 : its.toArray.size = ds.length := by rw [List.size_toArray, ← r.length, ← ar.length]
            have l2 : its'.toArray.size = es.length := by rw [List.size_toArray, ← r'.length, ← ar'.length]
            by_cases hl : ds.length = es.length
            · have main := SeqAt.RcAt.lists (A := A) (e := fun j => eqD (ds.getD j .non) (es.getD j .non)) ht ht' (by omega) hu2 (fun j h1 h2 => by
                have j1 : j < ds.length := by omega
                have j2 : j < es.length := by omega
                have e1 : ds[j]? = some ds[j] := List.getElem?_eq_getElem j1
                have e2 : es[j]? = some es[j] := List.getElem?_eq_getElem j2
                obtain ⟨x1, g1, i1⟩ := ar.get e1
                obtain ⟨y1, g2, i2⟩ := ar'.get e2
                have d1 : ds.getD j .non = ds[j] := by simp [j1]
                have d2 : es.getD j .non = es[j] := by simp [j2]
                show SeqAt.EqAt A.in1 s _ _ (eqD (ds.getD j .non) (es.getD j .non))
                rw [d1, d2]
                have hm := dpDs_mem (List.getElem_mem j1)
                have hsz : sizeOf ds[j] < sizeOf (D.lst ds) := by
                  have := List.sizeOf_lt_of_mem (List.getElem_mem j1)
                  simp only [D.lst.sizeOf_spec]; omega
                have z1 : dpD (D.lst ds) = dpDs ds + 1 := by simp only [dpD]
                refine eqAt_D I ds[j] es[j] x1 y1 _ _ A.in1 i1 i2 (rel_getElem r (by simpa using h1) g1) (rel_getElem r' (by simpa using h2) g2) ?_ ?_
                · show A.units + 1 + dpD ds[j] < cLine
                  omega
                · show A.units + 1 < cLine
                  omega)
              have al := all_eqDs ds es
              rw [← hl, Nat.min_self, beq_self_eq_true, Bool.and_true] at al
              rw [l1, al] at main
              exact SeqAt.EqAt.of_refs hne main
            · have main := SeqAt.RcAt.lists_lengths (A := A) ht ht' (by rw [l1, l2]; simpa using hl) hu2
              have al := all_eqDs ds es
              have hf : (ds.length == es.length) = false := by simpa using hl
              rw [hf, Bool.and_false] at al
              have z : eqD (D.lst ds) (D.lst es) = eqDs ds es := by simp only [eqD]
              rw [z, ← al]
              exact SeqAt.EqAt.of_refs hne main
          | tup es =>
            obtain ⟨a', vs', rfl, q', ar'⟩ := he
            cases ry
            obtain ⟨its', r', ht', _⟩ := I.tuple q'
            exact SeqAt.EqAt.list_tuple ht ht' hu2
          | non => cases hfe
          | bl _ => cases hfe
          | int _ => cases hfe
          | str _ => cases hfe
        | non => cases hfd
        | bl _ => cases hfd
        | int _ => cases hfd
        | str _ => cases hfd
termination_by sizeOf d
end
end L2
set_option Elab.async false
set_option linter.all false
set_option maxRecDepth 100000
namespace L2
open PySem PySem.Spec PyProof.Rows
theorem rcEq_V {A : Around} {s : Shared} {y x : V} {u v : Value} (ry : RelV y u) (rx : RelV x v) (fy : flatV y = true) (fx : flatV x = true) : SeqAt.RcAt A s u v ((eqV y x)) := by
  cases y with
  | non =>
    cases ry
    cases x with
    | non => cases rx; exact SeqAt.RcAt.none_none 
    | bl b => cases rx; exact SeqAt.RcAt.none_bool b
    | int b => obtain ⟨t, rfl⟩ := rx; exact SeqAt.RcAt.none_int b t
    | str b => obtain ⟨t, rfl⟩ := rx; exact SeqAt.RcAt.none_str b t
    | _ => exact absurd (show false = true from fx) Bool.false_ne_true
  | bl a =>
    cases ry
    cases x with
    | non => cases rx; exact SeqAt.RcAt.bool_none a
    | bl b => cases rx; exact SeqAt.RcAt.bool_bool a b
    | int b => obtain ⟨t, rfl⟩ := rx; exact SeqAt.RcAt.bool_int a b t
    | str b => obtain ⟨t, rfl⟩ := rx; exact SeqAt.RcAt.bool_str a b t
    | _ => exact absurd (show false = true from fx) Bool.false_ne_true
  | int a =>
    obtain ⟨t', rfl⟩ := ry
    cases x with
    | non => cases rx; exact SeqAt.RcAt.int_none a t'
    | bl b => cases rx; exact SeqAt.RcAt.int_bool a t' b
    | int b => obtain ⟨t, rfl⟩ := rx; exact SeqAt.RcAt.int_int a t' b t
    | str b => obtain ⟨t, rfl⟩ := rx; exact SeqAt.RcAt.int_str a t' b t
    | _ => exact absurd (show false = true from fx) Bool.false_ne_true
  | str a =>
    obtain ⟨t', rfl⟩ := ry
    cases x with
    | non => cases rx; exact SeqAt.RcAt.str_none a t'
    | bl b => cases rx; exact SeqAt.RcAt.str_bool a t' b
    | int b => obtain ⟨t, rfl⟩ := rx; exact SeqAt.RcAt.str_int a t' b t
    | str b => obtain ⟨t, rfl⟩ := rx; exact SeqAt.RcAt.str_str a t' b t
    | _ => exact absurd (show false = true from fx) Bool.false_ne_true
  | _ => exact absurd (show false = true from fy) Bool.false_ne_true
theorem rcEq_D {X : Cx} {pins : List (Addr × Obj)} {σ : St} {H : Hp} {s : Shared} (I : Inv X pins σ H s) (d e : D) (x y : V) (u v : Value) (A : Around) (hd : IsD X.K H d x) (he : IsD X.K H e y) (rx : RelV x u) (ry : RelV y v) (hu : A.units + dpD d < cLine) (hu2 : A.units < cLine) :
    SeqAt.RcAt A s u v ((eqD d e)) := by
  cases hfd : flD d with
  | some x' =>
    obtain ⟨rfl, fx⟩ := IsD.flat hfd hd
    cases hfe : flD e with
    | some y' =>
      obtain ⟨rfl, fy⟩ := IsD.flat hfe he
      rw [eqD_flat hfd hfe]
      exact rcEq_V rx ry fx fy
    | none =>
      cases e with
      | tup es =>
        obtain ⟨a, vs, rfl, q, _⟩ := he
        cases ry
        obtain ⟨its, _, ht, _⟩ := I.tuple q
        cases d with
        | non => cases hfd; cases rx; exact SeqAt.RcAt.none_tuple ht hu2
        | bl b => cases hfd; cases rx; exact SeqAt.RcAt.bool_tuple b ht hu2
        | int b => cases hfd; obtain ⟨t, rfl⟩ := rx; exact SeqAt.RcAt.int_tuple b t ht hu2
        | str b => cases hfd; obtain ⟨t, rfl⟩ := rx; exact SeqAt.RcAt.str_tuple b t ht hu2
        | tup _ => cases hfd
        | lst _ => cases hfd
      | lst es =>
        obtain ⟨a, vs, rfl, q, _⟩ := he
        cases ry
        obtain ⟨its, _, hp, _⟩ := I.list q
        have ht := hp.isList
        cases d with
        | non => cases hfd; cases rx; exact SeqAt.RcAt.none_list ht hu2
        | bl b => cases hfd; cases rx; exact SeqAt.RcAt.bool_list b ht hu2
        | int b => cases hfd; obtain ⟨t, rfl⟩ := rx; exact SeqAt.RcAt.int_list b t ht hu2
        | str b => cases hfd; obtain ⟨t, rfl⟩ := rx; exact SeqAt.RcAt.str_list b t ht hu2
        | tup _ => cases hfd
        | lst _ => cases hfd
      | non => cases hfe
      | bl _ => cases hfe
      | int _ => cases hfe
      | str _ => cases hfe
  | none =>
    cases hfe : flD e with
    | some y' =>
      obtain ⟨rfl, fy⟩ := IsD.flat hfe he
      cases d with
      | tup es =>
        obtain ⟨a, vs, rfl, q, _⟩ := hd
        cases rx
        obtain ⟨its, _, ht, _⟩ := I.tuple q
        cases e with
        | non => cases hfe; cases ry; exact SeqAt.RcAt.tuple_none ht hu2
        | bl b => cases hfe; cases ry; exact SeqAt.RcAt.tuple_bool b ht hu2
        | int b => cases hfe; obtain ⟨t, rfl⟩ := ry; exact SeqAt.RcAt.tuple_int b t ht hu2
        | str b => cases hfe; obtain ⟨t, rfl⟩ := ry; exact SeqAt.RcAt.tuple_str b t ht hu2
        | tup _ => cases hfe
        | lst _ => cases hfe
      | lst es =>
        obtain ⟨a, vs, rfl, q, _⟩ := hd
        cases rx
        obtain ⟨its, _, hp, _⟩ := I.list q
        have ht := hp.isList
        cases e with
        | non => cases hfe; cases ry; exact SeqAt.RcAt.list_none ht hu2
        | bl b => cases hfe; cases ry; exact SeqAt.RcAt.list_bool b ht hu2
        | int b => cases hfe; obtain ⟨t, rfl⟩ := ry; exact SeqAt.RcAt.list_int b t ht hu2
        | str b => cases hfe; obtain ⟨t, rfl⟩ := ry; exact SeqAt.RcAt.list_str b t ht hu2
        | tup _ => cases hfe
        | lst _ => cases hfe
      | non => cases hfd
      | bl _ => cases hfd
      | int _ => cases hfd
      | str _ => cases hfd
    | none =>
      cases d with
      | tup ds =>
        obtain ⟨a, vs, rfl, q, ar⟩ := hd
        cases rx
        obtain ⟨its, r, ht, _⟩ := I.tuple q
        cases e with
        | tup es =>
          obtain ⟨a', vs', rfl, q', ar'⟩ := he
          cases ry
          obtain ⟨its', r', ht', _⟩ := I.tuple q'
          have l1 : its.toArray.size = ds.length := by rw [List.size_toArray, ← r.length, ← ar.length]
          have l2 : its'.toArray.size = es.length := by rw [List.size_toArray, ← r'.length, ← ar'.length]
          have main := SeqAt.RcAt.tuples (A := A) (e := fun j => eqD (ds.getD j .non) (es.getD j .non)) ht ht' hu2 (fun j h1 h2 => by
              have j1 : j < ds.length := by omega
              have j2 : j < es.length := by omega
              have e1 : ds[j]? = some ds[j] := List.getElem?_eq_getElem j1
              have e2 : es[j]? = some es[j] := List.getElem?_eq_getElem j2
              obtain ⟨x1, g1, i1⟩ := ar.get e1
              obtain ⟨y1, g2, i2⟩ := ar'.get e2
              have d1 : ds.getD j .non = ds[j] := by simp [j1]
              have d2 : es.getD j .non = es[j] := by simp [j2]
              show SeqAt.EqAt A.in1 s _ _ (eqD (ds.getD j .non) (es.getD j .non))
              rw [d1, d2]
              have hm := dpDs_mem (List.getElem_mem j1)
              have z1 : dpD (D.tup ds) = dpDs ds + 1 := by simp only [dpD]
              refine eqAt_D I ds[j] es[j] x1 y1 _ _ A.in1 i1 i2 (rel_getElem r (by simpa using h1) g1) (rel_getElem r' (by simpa using h2) g2) ?_ ?_
              · show A.units + 1 + dpD ds[j] < cLine
                omega
              · show A.units + 1 < cLine
                omega)
          rw [l1, l2, all_eqDs] at main
          exact main
        | lst es =>
          obtain ⟨a', vs', rfl, q', ar'⟩ := he
          cases ry
          obtain ⟨its', r', hp', _⟩ := I.list q'
          exact SeqAt.RcAt.tuple_list ht hp'.isList hu2
        | non => cases hfe
        | bl _ => cases hfe
        | int _ => cases hfe
        | str _ => cases hfe
      | lst ds =>
        obtain ⟨a, vs, rfl, q, ar⟩ := hd
        cases rx
        obtain ⟨its, r, hp, _⟩ := I.list q
        have ht := hp.isList
        cases e with
        | lst es =>
          obtain ⟨a', vs', rfl, q', ar'⟩ := he
          cases ry
          obtain ⟨its', r', hp', _⟩ := I.list q'
          have ht' := hp'.isList
          have l1 : its.toArray.size = ds.length := by rw [List.size_toArray, ← r.length, ← ar.length]
          have l2 : its'.toArray.size = es.length := by rw [List.size_toArray, ← r'.length, ← ar'.length]
          by_cases hl : ds.length = es.length
          · have main := SeqAt.RcAt.lists (A := A) (e := fun j => eqD (ds.getD j .non) (es.getD j .non)) ht ht' (by omega) hu2 (fun j h1 h2 => by
              have j1 : j < ds.length := by omega
              have j2 : j < es.length := by omega
              have e1 : ds[j]? = some ds[j] := List.getElem?_eq_getElem j1
              have e2 : es[j]? = some es[j] := List.getElem?_eq_getElem j2
              obtain ⟨x1, g1, i1⟩ := ar.get e1
              obtain ⟨y1, g2, i2⟩ := ar'.get e2
              have d1 : ds.getD j .non = ds[j] := by simp [j1]
              have d2 : es.getD j .non = es[j] := by simp [j2]
              show SeqAt.EqAt A.in1 s _ _ (eqD (ds.getD j .non) (es.getD j .non))
              rw [d1, d2]
              have hm := dpDs_mem (List.getElem_mem j1)
              have z1 : dpD (D.lst ds) = dpDs ds + 1 := by simp only [dpD]
              refine eqAt_D I ds[j] es[j] x1 y1 _ _ A.in1 i1 i2 (rel_getElem r (by simpa using h1) g1) (rel_getElem r' (by simpa using h2) g2) ?_ ?_
              · show A.units + 1 + dpD ds[j] < cLine
                omega
              · show A.units + 1 < cLine
                omega)
            have al := all_eqDs ds es
            rw [← hl, Nat.min_self, beq_self_eq_true, Bool.and_true] at al
            rw [l1, al] at main
            exact main
          · have main := SeqAt.RcAt.lists_lengths (A := A) ht ht' (by rw [l1, l2]; simpa using hl) hu2
            have al := all_eqDs ds es
            have hf : (ds.length == es.length) = false := by simpa using hl
            rw [hf, Bool.and_false] at al
            have z : eqD (D.lst ds) (D.lst es) = eqDs ds es := by simp only [eqD]
            rw [z, ← al]
            exact main
        | tup es =>
          obtain ⟨a', vs', rfl, q', ar'⟩ := he
          cases ry
          obtain ⟨its', r', ht', _⟩ := I.tuple q'
          exact SeqAt.RcAt.list_tuple ht ht' hu2
        | non => cases hfe
        | bl _ => cases hfe
        | int _ => cases hfe
        | str _ => cases hfe
      | non => cases hfd
      | bl _ => cases hfd
      | int _ => cases hfd
      | str _ => cases hfd
theorem rcNe_V {A : Around} {s : Shared} {y x : V} {u v : Value} (ry : RelV y u) (rx : RelV x v) (fy : flatV y = true) (fx : flatV x = true) : SeqAt.RcNeAt A s u v (!(eqV y x)) := by
  cases y with
  | non =>
    cases ry
    cases x with
    | non => cases rx; exact SeqAt.RcNeAt.none_none 
    | bl b => cases rx; exact SeqAt.RcNeAt.none_bool b
    | int b => obtain ⟨t, rfl⟩ := rx; exact SeqAt.RcNeAt.none_int b t
    | str b => obtain ⟨t, rfl⟩ := rx; exact SeqAt.RcNeAt.none_str b t
    | _ => exact absurd (show false = true from fx) Bool.false_ne_true
  | bl a =>
    cases ry
    cases x with
    | non => cases rx; exact SeqAt.RcNeAt.bool_none a
    | bl b => cases rx; exact SeqAt.RcNeAt.bool_bool a b
    | int b => obtain ⟨t, rfl⟩ := rx; exact SeqAt.RcNeAt.bool_int a b t
    | str b => obtain ⟨t, rfl⟩ := rx; exact SeqAt.RcNeAt.bool_str a b t
    | _ => exact absurd (show false = true from fx) Bool.false_ne_true
  | int a =>
    obtain ⟨t', rfl⟩ := ry
    cases x with
    | non => cases rx; exact SeqAt.RcNeAt.int_none a t'
    | bl b => cases rx; exact SeqAt.RcNeAt.int_bool a t' b
    | int b => obtain ⟨t, rfl⟩ := rx; exact SeqAt.RcNeAt.int_int a t' b t
    | str b => obtain ⟨t, rfl⟩ := rx; exact SeqAt.RcNeAt.int_str a t' b t
    | _ => exact absurd (show false = true from fx) Bool.false_ne_true
  | str a =>
    obtain ⟨t', rfl⟩ := ry
    cases x with
    | non => cases rx; exact SeqAt.RcNeAt.str_none a t'
    | bl b => cases rx; exact SeqAt.RcNeAt.str_bool a t' b
    | int b => obtain ⟨t, rfl⟩ := rx; exact SeqAt.RcNeAt.str_int a t' b t
    | str b => obtain ⟨t, rfl⟩ := rx; exact SeqAt.RcNeAt.str_str a t' b t
    | _ => exact absurd (show false = true from fx) Bool.false_ne_true
  | _ => exact absurd (show false = true from fy) Bool.false_ne_true
theorem rcNe_D {X : Cx} {pins : List (Addr × Obj)} {σ : St} {H : Hp} {s : Shared} (I : Inv X pins σ H s) (d e : D) (x y : V) (u v : Value) (A : Around) (hd : IsD X.K H d x) (he : IsD X.K H e y) (rx : RelV x u) (ry : RelV y v) (hu : A.units + dpD d < cLine) (hu2 : A.units < cLine) :
    SeqAt.RcNeAt A s u v (!(eqD d e)) := by
  cases hfd : flD d with
  | some x' =>
    obtain ⟨rfl, fx⟩ := IsD.flat hfd hd
    cases hfe : flD e with
    | some y' =>
      obtain ⟨rfl, fy⟩ := IsD.flat hfe he
      rw [eqD_flat hfd hfe]
      exact rcNe_V rx ry fx fy
    | none =>
      cases e with
      | tup es =>
        obtain ⟨a, vs, rfl, q, _⟩ := he
        cases ry
        obtain ⟨its, _, ht, _⟩ := I.tuple q
        cases d with
        | non => cases hfd; cases rx; exact SeqAt.RcNeAt.none_tuple ht hu2
        | bl b => cases hfd; cases rx; exact SeqAt.RcNeAt.bool_tuple b ht hu2
        | int b => cases hfd; obtain ⟨t, rfl⟩ := rx; exact SeqAt.RcNeAt.int_tuple b t ht hu2
        | str b => cases hfd; obtain ⟨t, rfl⟩ := rx; exact SeqAt.RcNeAt.str_tuple b t ht hu2
        | tup _ => cases hfd
        | lst _ => cases hfd
      | lst es =>
        obtain ⟨a, vs, rfl, q, _⟩ := he
        cases ry
        obtain ⟨its, _, hp, _⟩ := I.list q
        have ht := hp.isList
        cases d with
        | non => cases hfd; cases rx; exact SeqAt.RcNeAt.none_list ht hu2
        | bl b => cases hfd; cases rx; exact SeqAt.RcNeAt.bool_list b ht hu2
        | int b => cases hfd; obtain ⟨t, rfl⟩ := rx; exact SeqAt.RcNeAt.int_list b t ht hu2
        | str b => cases hfd; obtain ⟨t, rfl⟩ := rx; exact SeqAt.RcNeAt.str_list b t ht hu2
        | tup _ => cases hfd
        | lst _ => cases hfd
      | non => cases hfe
      | bl _ => cases hfe
      | int _ => cases hfe
      | str _ => cases hfe
  | none =>
    cases hfe : flD e with
    | some y' =>
      obtain ⟨rfl, fy⟩ := IsD.flat hfe he
      cases d with
      | tup es =>
        obtain ⟨a, vs, rfl, q, _⟩ := hd
        cases rx
        obtain ⟨its, _, ht, _⟩ := I.tuple q
        cases e with
        | non => cases hfe; cases ry; exact SeqAt.RcNeAt.tuple_none ht hu2
        | bl b => cases hfe; cases ry; exact SeqAt.RcNeAt.tuple_bool b ht hu2
        | int b => cases hfe; obtain ⟨t, rfl⟩ := ry; exact SeqAt.RcNeAt.tuple_int b t ht hu2
        | str b => cases hfe; obtain ⟨t, rfl⟩ := ry; exact SeqAt.RcNeAt.tuple_str b t ht hu2
        | tup _ => cases hfe
        | lst _ => cases hfe
      | lst es =>
        obtain ⟨a, vs, rfl, q, _⟩ := hd
        cases rx
        obtain ⟨its, _, hp, _⟩ := I.list q
        have ht := hp.isList
        cases e with
        | non => cases hfe; cases ry; exact SeqAt.RcNeAt.list_none ht hu2
        | bl b => cases hfe; cases ry; exact SeqAt.RcNeAt.list_bool b ht hu2
        | int b => cases hfe; obtain ⟨t, rfl⟩ := ry; exact SeqAt.RcNeAt.list_int b t ht hu2
        | str b => cases hfe; obtain ⟨t, rfl⟩ := ry; exact SeqAt.RcNeAt.list_str b t ht hu2
        | tup _ => cases hfe
        | lst _ => cases hfe
      | non => cases hfd
      | bl _ => cases hfd
      | int _ => cases hfd
      | str _ => cases hfd
    | none =>
      cases d with
      | tup ds =>
        obtain ⟨a, vs, rfl, q, ar⟩ := hd
        cases rx
        obtain ⟨its, r, ht, _⟩ := I.tuple q
        cases e with
        | tup es =>
          obtain ⟨a', vs', rfl, q', ar'⟩ := he
          cases ry
          obtain ⟨its', r', ht', _⟩ := I.tuple q'
          have l1 : its.toArray.size = ds.length := by rw [List.size_toArray, ← r.length, ← ar.length]
          have l2 : its'.toArray.size = es.length := by rw [List.size_toArray, ← r'.length, ← ar'.length]
          have main := SeqAt.RcNeAt.tuples (A := A) (e := fun j => eqD (ds.getD j .non) (es.getD j .non)) ht ht' hu2 (fun j h1 h2 => by
              have j1 : j < ds.length := by omega
              have j2 : j < es.length := by omega
              have e1 : ds[j]? = some ds[j] := List.getElem?_eq_getElem j1
              have e2 : es[j]? = some es[j] := List.getElem?_eq_getElem j2
              obtain ⟨x1, g1, i1⟩ := ar.get e1
              obtain ⟨y1, g2, i2⟩ := ar'.get e2
              have d1 : ds.getD j .non = ds[j] := by simp [j1]
              have d2 : es.getD j .non = es[j] := by simp [j2]
              show SeqAt.EqAt A.in1 s _ _ (eqD (ds.getD j .non) (es.getD j .non))
              rw [d1, d2]
              have hm := dpDs_mem (List.getElem_mem j1)
              have z1 : dpD (D.tup ds) = dpDs ds + 1 := by simp only [dpD]
              refine eqAt_D I ds[j] es[j] x1 y1 _ _ A.in1 i1 i2 (rel_getElem r (by simpa using h1) g1) (rel_getElem r' (by simpa using h2) g2) ?_ ?_
              · show A.units + 1 + dpD ds[j] < cLine
                omega
              · show A.units + 1 < cLine
                omega)
          rw [l1, l2, all_eqDs] at main
          exact main
        | lst es =>
          obtain ⟨a', vs', rfl, q', ar'⟩ := he
          cases ry
          obtain ⟨its', r', hp', _⟩ := I.list q'
          exact SeqAt.RcNeAt.tuple_list ht hp'.isList hu2
        | non => cases hfe
        | bl _ => cases hfe
        | int _ => cases hfe
        | str _ => cases hfe
      | lst ds =>
        obtain ⟨a, vs, rfl, q, ar⟩ := hd
        cases rx
        obtain ⟨its, r, hp, _⟩ := I.list q
        have ht := hp.isList
        cases e with
        | lst es =>
          obtain ⟨a', vs', rfl, q', ar'⟩ := he
          cases ry
          obtain ⟨its', r', hp', _⟩ := I.list q'
          have ht' := hp'.isList
          have l1 : its.toArray.size = ds.length := by rw [List.size_toArray, ← r.length, ← ar.length]
          have l2 : its'.toArray.size = es.length := by rw [List.size_toArray, ← r'.length, ← ar'.length]
          by_cases hl : ds.length = es.length
          · have main := SeqAt.RcNeAt.lists (A := A) (e := fun j => eqD (ds.getD j .non) (es.getD j .non)) ht ht' (by omega) hu2 (fun j h1 h2 => by
              have j1 : j < ds.length := by omega
              have j2 : j < es.length := by omega
              have e1 : ds[j]? = some ds[j] := List.getElem?_eq_getElem j1
              have e2 : es[j]? = some es[j] := List.getElem?_eq_getElem j2
              obtain ⟨x1, g1, i1⟩ := ar.get e1
              obtain ⟨y1, g2, i2⟩ := ar'.get e2
              have d1 : ds.getD j .non = ds[j] := by simp [j1]
              have d2 : es.getD j .non = es[j] := by simp [j2]
              show SeqAt.EqAt A.in1 s _ _ (eqD (ds.getD j .non) (es.getD j .non))
              rw [d1, d2]
              have hm := dpDs_mem (List.getElem_mem j1)
              have z1 : dpD (D.lst ds) = dpDs ds + 1 := by simp only [dpD]
              refine eqAt_D I ds[j] es[j] x1 y1 _ _ A.in1 i1 i2 (rel_getElem r (by simpa using h1) g1) (rel_getElem r' (by simpa using h2) g2) ?_ ?_
              · show A.units + 1 + dpD ds[j] < cLine
                omega
              · show A.units + 1 < cLine
                omega)
            have al := all_eqDs ds es
            rw [← hl, Nat.min_self, beq_self_eq_true, Bool.and_true] at al
            rw [l1, al] at main
            exact main
          · have main := SeqAt.RcNeAt.lists_lengths (A := A) ht ht' (by rw [l1, l2]; simpa using hl) hu2
            have al := all_eqDs ds es
            have hf : (ds.length == es.length) = false := by simpa using hl
            rw [hf, Bool.and_false] at al
            have z : eqD (D.lst ds) (D.lst es) = eqDs ds es := by simp only [eqD]
            rw [z, ← al]
            exact main
        | tup es =>
          obtain ⟨a', vs', rfl, q', ar'⟩ := he
          cases ry
          obtain ⟨its', r', ht', _⟩ := I.tuple q'
          exact SeqAt.RcNeAt.list_tuple ht ht' hu2
        | non => cases hfe
        | bl _ => cases hfe
        | int _ => cases hfe
        | str _ => cases hfe
      | non => cases hfd
      | bl _ => cases hfd
      | int _ => cases hfd
      | str _ => cases hfd
section
variable {X : Cx}
/-- == and != of data -/
def rEqD (K : PySem.W.Frag) (A : Around) : R2 := fun x y H Q => ∃ d e, IsD K H d x ∧ IsD K H e y ∧ A.units + dpD d < cLine ∧ Q (.bl (eqD d e)) H
def rNeD (K : PySem.W.Frag) (A : Around) : R2 := fun x y H Q => ∃ d e, IsD K H d x ∧ IsD K H e y ∧ A.units + dpD d < cLine ∧ Q (.bl (!eqD d e)) H
theorem op_eqD : OpR X (compareOp .Eq) (rEqD X.K X.A) := by
  intro pins s σ H x y v u Q I rx ry h
  obtain ⟨d, e, hd, he, hu, q⟩ := h
  exact rcEq_D I d e x y v u X.A hd he rx ry hu (by omega) X.prog X.w X.xe _ ⟨.bl _, H, I, rfl, q⟩
theorem op_neD : OpR X (compareOp .NotEq) (rNeD X.K X.A) := by
  intro pins s σ H x y v u Q I rx ry h
  obtain ⟨d, e, hd, he, hu, q⟩ := h
  exact rcNe_D I d e x y v u X.A hd he rx ry hu (by omega) X.prog X.w X.xe _ ⟨.bl _, H, I, rfl, q⟩
/-- isinstance(x, T) of a built-in class -/
theorem call_isi : CallR X (.builtin "isinstance") (fun xs H Q => ∃ x T t b, xs = [x, .ty T] ∧ TyOf X.K H x t ∧ PySem.W.kitOne X.K t (.type T) = some b ∧ Q (.bl b) H) := by
  intro pins s σ H xs us Q I r h
  obtain ⟨x, T, t, b, rfl, ty, e, q⟩ := h
  obtain ⟨u, w', rfl, rx, ry⟩ := vals2 r
  cases ry
  exact isinst_ok I rx ty e (fun tk => ⟨.bl b, H, I.tok _, rfl, q⟩)
theorem kit_int_bool {K : PySem.W.Frag} : PySem.W.kitOne K (.type "int") (.type "bool") = some false := by rfl
theorem kit_bool_bool {K : PySem.W.Frag} : PySem.W.kitOne K (.type "bool") (.type "bool") = some true := by rfl
theorem kit_tup_tup {K : PySem.W.Frag} : PySem.W.kitOne K (.type "tuple") (.type "tuple") = some true := by rfl
end
end L2
set_option Elab.async false
set_option linter.all false
set_option maxRecDepth 100000
namespace L2
open PySem PySem.Spec PyProof.Rows

/-- no exception comes -/
abbrev noE : Value → Shared → Prop := fun _ _ => False
/-- all tests of a block, one behind the other -/
def testsOf (ifs : List Expr) (env : Env) : Sem Bool :=
  forIn ifs true fun c r => if r = true then (isTrue c env (eval c env) >>= fun b => pure (ForInStep.yield b)) else pure (ForInStep.yield r)
section
variable (prog : Program) (w : World) (A : Around) (tg elt : Expr) (ifs : List Expr) (env : Env) (it acc : Value)
/-- a turn from its tests on: the element, then its place in the list -/
def TurnEnd (nxt : Shared → Prop) (ok : Bool) (s : Shared) : Prop :=
  if ok = true then wpAny (model prog w) A (eval elt env) (fun y s1 => wpAny (model prog w) A (call (.builtin "list.append") [acc, y]) (fun _ s2 => nxt s2) noE s1) noE s else nxt s
/-- a turn that has an item v -/
def TurnGo (nxt : Shared → Prop) (v : Value) (s : Shared) : Prop :=
  wpAny (model prog w) A (letOwnedTupleGo tg it v) (fun _ s1 => wpAny (model prog w) A (assign tg env v) (fun _ s2 => wpAny (model prog w) A (testsOf ifs env) (TurnEnd prog w A elt env acc nxt) noE s2) noE s1) noE s
end
theorem compLoop_gen {prog : Program} {w : World} {A : Around} {R : Result → Shared → Prop} {s : Shared} {elt tg iter : Expr} {ifs : List Expr} {scope : Scope} {pos : Pos} {it acc : Value} {env : Env} (W : Nat → Shared → Prop)
    (turn : ∀ m s1, W m s1 → wpAny (model prog w) A (pyNext it) (fun r s2 => r.elim (R (.ok .next) s2) fun v => TurnGo prog w A tg elt ifs env it acc (fun s3 => ∃ m', m' < m ∧ W m' s3) v s2) noE s1)
    (m : Nat) (start : W m s) : codeAny (model prog w) A (.compLoop (.ListComp elt [⟨tg, iter, ifs, 0⟩] scope pos) 0 it acc env) R s := by
  refine codeAny_loop rfl W (fun k s1 hw => ?_) m start
  refine wpAny_noted (env := env) (m := compTurn (.ListComp elt [⟨tg, iter, ifs, 0⟩] scope pos) 0 it acc env) ?_
  rw [compTurn_list]
  refine wpAny_bind (wpAny_standAt (wpAny_bind (wpAny_mono (turn k s1 hw) (fun r s2 q => ?_) fun _ _ z => z.elim)))
  cases r with
  | none => exact wpAny_pure q
  | some v =>
    have q : TurnGo prog w A tg elt ifs env it acc (fun s3 => ∃ m', m' < k ∧ W m' s3) v s2 := q
    refine wpAny_bind (wpAny_mono q (fun _ s3 q3 => wpAny_bind (wpAny_mono q3 (fun _ s4 q4 => wpAny_bind (wpAny_mono q4 (fun ok s5 q5 => ?_) fun _ _ z => z.elim)) fun _ _ z => z.elim)) fun _ _ z => z.elim)
    cases ok with
    | false => exact wpAny_pure ⟨rfl, q5⟩
    | true => exact wpAny_bind (wpAny_bind (wpAny_mono q5 (fun y s6 q6 => wpAny_bind (wpAny_mono q6 (fun _ s7 q7 => wpAny_pure (wpAny_pure ⟨rfl, q7⟩)) fun _ _ z => z.elim)) fun _ _ z => z.elim))

/-! ### the block of a comprehension as a context of its own -/
/-- the cells that a block sees -/
def closOf (env : Env) : List (Str × NameKind) → List (Str × Addr) → List (Str × Addr)
  | [], cs => cs
  | (n, k) :: r, cs => closOf env r (if k == .free then (n, (env.cells.lookup n).getD 0) :: cs else cs)
def cxComp (X : Cx) (scope : Scope) (N : List Str) (fp : List Addr) (s : Shared) (H : Hp) : Cx :=
  { X with N := N, s₀ := s, H₀ := H, env := compEnvC scope (closOf X.env scope.names []) s.heap.objs.size X.env, outer := X.stack, stack := X.stack, ex := fp, fn := fun _ => false, pn := [], xe := noE }

/-- the names that the block sees: own ones (none), those of the body around (their slot there) -/
structure CompOk (X : Cx) (scope : Scope) (N : List Str) (fr : List (Option Nat)) : Prop where
  clos : closureFor scope X.env = pure (closOf X.env scope.names [])
  kind : scope.kind = .function
  nocell : ∀ y ∈ scope.names, y.2 ≠ .cell
  names : ∀ y ∈ scope.names, y.2 = .local → scope.names.lookup y.1 = some .local
  cells : ∀ x c, (closOf X.env scope.names []).lookup x = some c → X.env.cells.lookup x = some c
  has : ∀ x, ((relabel scope X.env).names.lookup x = some .cell ∨ (relabel scope X.env).names.lookup x = some .free) → ∃ c, (closOf X.env scope.names []).lookup x = some c
  len : fr.length = N.length
  fr : ∀ (i j : Nat), fr[i]? = some (some j) → ∃ x, N[i]? = some x ∧ X.N[j]? = some x ∧ Vis X.env.scope x ∧ ¬ X.env.kindOf x = some .local ∧ ((relabel scope X.env).names.lookup x = some .cell ∨ (relabel scope X.env).names.lookup x = some .free)

def frees (fr : List (Option Nat)) (σ : St) : St := fr.map fun o => o.bind fun i => (σ[i]?).bind id
theorem frees_length (fr : List (Option Nat)) (σ : St) : (frees fr σ).length = fr.length := List.length_map _
theorem frees_get {fr : List (Option Nat)} {σ : St} {i : Nat} {v : V} (h : (frees fr σ)[i]? = some (some v)) : ∃ j, fr[i]? = some (some j) ∧ σ[j]? = some (some v) := by
  unfold frees at h
  rw [List.getElem?_map] at h
  cases e : fr[i]? with
  | none => rw [e] at h; cases h
  | some o =>
    rw [e] at h
    cases o with
    | none => cases h
    | some j =>
      refine ⟨j, rfl, ?_⟩
      have h' : (σ[j]?).bind id = some v := Option.some.inj h
      cases e2 : σ[j]? with
      | none => rw [e2] at h'; cases h'
      | some o2 => rw [e2] at h'; exact congrArg some h'

theorem mem_relabel {scope : Scope} {env : Env} {x : Str} {k : NameKind} (h : (relabel scope env).names.lookup x = some k) : ∃ k0, (x, k0) ∈ scope.names ∧ (k = k0 ∨ (k0 = .free ∧ k = .cell)) := by
  have hm := PySem.mem_of_lookup h
  obtain ⟨⟨n, k0⟩, h1, h2⟩ := List.mem_map.mp (show (x, k) ∈ scope.names.map _ from hm)
  dsimp only at h2
  split at h2
  · rename_i hc
    cases h2
    simp only [Bool.and_eq_true, beq_iff_eq] at hc
    exact ⟨k0, h1, .inr ⟨hc.1.1, rfl⟩⟩
  · cases h2
    exact ⟨k, h1, .inl rfl⟩

def scOk (outer scope : Scope) : Bool :=
  decide (scope.kind = .function) && scope.names.all fun y => decide (y.2 ≠ .cell) && (decide (y.2 ≠ .local) || decide (scope.names.lookup y.1 = some .local)) &&
    (decide (y.2 ≠ .free) || decide (outer.names.lookup y.1 = some .cell) || decide (outer.names.lookup y.1 = some .free))
def frOk (NX : List Str) (names : List (Str × NameKind)) : List Str → List (Option Nat) → Bool
  | [], [] => true
  | _ :: N, none :: fr => frOk NX names N fr
  | x :: N, some j :: fr => decide (NX[j]? = some x) && decide (names.lookup x = some .free) && frOk NX names N fr
  | _, _ => false
theorem frOk_len {NX : List Str} {names : List (Str × NameKind)} : ∀ {N : List Str} {fr : List (Option Nat)}, frOk NX names N fr = true → fr.length = N.length
  | [], [], _ => rfl
  | [], _ :: _, h => by simp [frOk] at h
  | _ :: _, [], h => by simp [frOk] at h
  | x :: N, none :: fr, h => by
    simp only [frOk] at h
    simp only [List.length_cons, frOk_len h]
  | x :: N, some j :: fr, h => by
    simp only [frOk, Bool.and_eq_true] at h
    simp only [List.length_cons, frOk_len h.2]
theorem frOk_get {NX : List Str} {names : List (Str × NameKind)} : ∀ {N : List Str} {fr : List (Option Nat)} {i j : Nat}, frOk NX names N fr = true → fr[i]? = some (some j) → ∃ x, N[i]? = some x ∧ NX[j]? = some x ∧ names.lookup x = some .free
  | [], [], _, _, _, e => by simp at e
  | [], _ :: _, _, _, h, _ => by simp [frOk] at h
  | _ :: _, [], _, _, h, _ => by simp [frOk] at h
  | x :: N, none :: fr, 0, _, _, e => by simp at e
  | x :: N, none :: fr, i + 1, j, h, e => by
    simp only [frOk] at h
    obtain ⟨y, h1, h2⟩ := frOk_get (i := i) h (by simpa using e)
    exact ⟨y, by simpa using h1, h2⟩
  | x :: N, some k :: fr, 0, j, h, e => by
    simp only [frOk, Bool.and_eq_true, decide_eq_true_eq] at h
    simp at e
    subst e
    exact ⟨x, rfl, h.1.1, h.1.2⟩
  | x :: N, some k :: fr, i + 1, j, h, e => by
    simp only [frOk, Bool.and_eq_true] at h
    obtain ⟨y, h1, h2⟩ := frOk_get (i := i) h.2 (by simpa using e)
    exact ⟨y, by simpa using h1, h2⟩
theorem lookup_map_kind {f : Str → NameKind → NameKind} (x : Str) : ∀ names : List (Str × NameKind), (names.map fun p => (p.1, f p.1 p.2)).lookup x = (names.lookup x).map (f x)
  | [] => rfl
  | (n, k) :: r => by
    have ih := lookup_map_kind (f := f) x r
    cases e : x == n with
    | false =>
      simp only [List.map_cons, List.lookup_cons, e]
      exact ih
    | true =>
      have e' : x = n := by simpa using e
      simp only [List.map_cons, List.lookup_cons, e, Option.map_some]
      rw [e']
theorem relabel_names (scope : Scope) (env : Env) : (relabel scope env).names = scope.names.map fun p => (p.1, if (p.2 == NameKind.free && env.scope.kind == .function && env.kindOf p.1 == some .cell) = true then NameKind.cell else p.2) := by
  show scope.names.map _ = _
  refine List.map_congr_left fun p _ => ?_
  obtain ⟨n, k⟩ := p
  dsimp only
  split <;> rfl
theorem lookup_relabel_free {scope : Scope} {env : Env} {x : Str} (h : scope.names.lookup x = some .free) : (relabel scope env).names.lookup x = some .cell ∨ (relabel scope env).names.lookup x = some .free := by
  rw [relabel_names, lookup_map_kind (f := fun n k => if (k == NameKind.free && env.scope.kind == .function && env.kindOf n == some .cell) = true then NameKind.cell else k), h]
  dsimp only [Option.map_some]
  split
  · exact .inl rfl
  · exact .inr rfl
theorem closOf_mem {env : Env} : ∀ {names : List (Str × NameKind)} {cs : List (Str × Addr)}, (∀ y ∈ names, y.2 = .free → ∃ c, env.cells.lookup y.1 = some c) → (∀ p ∈ cs, env.cells.lookup p.1 = some p.2) → ∀ p ∈ closOf env names cs, env.cells.lookup p.1 = some p.2
  | [], cs, _, hc, p, hp => hc p hp
  | (n, k) :: r, cs, hn, hc, p, hp => by
    simp only [closOf] at hp
    refine closOf_mem (fun y hy => hn y (List.mem_cons_of_mem _ hy)) (fun q hq => ?_) p hp
    split at hq
    · rename_i hk
      rcases List.mem_cons.mp hq with e | hq
      · obtain ⟨c, hc'⟩ := hn (n, k) List.mem_cons_self (by simpa using hk)
        subst e
        dsimp only at hc' ⊢
        rw [hc']
        rfl
      · exact hc q hq
    · exact hc q hq
theorem closOf_old {env : Env} : ∀ {names : List (Str × NameKind)} {cs : List (Str × Addr)} {p : Str × Addr}, p ∈ cs → p ∈ closOf env names cs
  | [], _, _, h => h
  | (n, k) :: r, cs, p, h => by
    simp only [closOf]
    refine closOf_old ?_
    split
    · exact List.mem_cons_of_mem _ h
    · exact h
theorem closOf_has {env : Env} : ∀ {names : List (Str × NameKind)} {cs : List (Str × Addr)} {x : Str}, (x, NameKind.free) ∈ names → ∃ c, (x, c) ∈ closOf env names cs
  | (n, k) :: r, cs, x, h => by
    rcases List.mem_cons.mp h with e | h
    · cases e
      exact ⟨_, by simp only [closOf, beq_self_eq_true, if_true]; exact closOf_old List.mem_cons_self⟩
    · simp only [closOf]
      exact closOf_has h
theorem lookup_of_mem {β : Type} : ∀ {l : List (Str × β)} {x : Str} {b : β}, (x, b) ∈ l → ∃ c, l.lookup x = some c
  | (n, c) :: r, x, b, h => by
    cases hx : x == n with
    | true => exact ⟨c, by simp only [List.lookup_cons, hx]⟩
    | false =>
      rcases List.mem_cons.mp h with e | h
      · cases e
        simp at hx
      · obtain ⟨d, hd⟩ := lookup_of_mem h
        exact ⟨d, by simp only [List.lookup_cons, hx]; exact hd⟩
theorem closureFor_eq {scope : Scope} {env : Env} (h : ∀ y ∈ scope.names, y.2 = .free → ∃ c, env.cells.lookup y.1 = some c) : closureFor scope env = pure (closOf env scope.names []) := by
  have go : ∀ (names : List (Str × NameKind)) (cs : List (Str × Addr)), (∀ y ∈ names, y.2 = .free → ∃ c, env.cells.lookup y.1 = some c) →
      (forIn names cs fun x cs => (do
        if x.2 == NameKind.free then pure (ForInStep.yield ((x.1, ← cellOf env x.1) :: cs)) else pure (ForInStep.yield cs) : Sem (ForInStep (List (Str × Addr))))) = pure (closOf env names cs) := by
    intro names
    induction names with
    | nil => intro cs _; rfl
    | cons y r ih =>
      intro cs hn
      obtain ⟨n, k⟩ := y
      have hr : ∀ y ∈ r, y.2 = .free → ∃ c, env.cells.lookup y.1 = some c := fun y hy => hn y (List.mem_cons_of_mem _ hy)
      rw [List.forIn_cons]
      by_cases hk : k = .free
      · subst hk
        obtain ⟨c, hc⟩ := hn (n, .free) List.mem_cons_self rfl
        have ec : cellOf env n = pure c := by
          unfold cellOf
          dsimp only at hc
          rw [hc]
        simp only [beq_self_eq_true, if_true, ec, pure_bind, closOf]
        rw [ih _ hr]
        dsimp only at hc
        rw [hc]
        rfl
      · have hb : (k == NameKind.free) = false := by simpa using hk
        simp only [hb, Bool.false_eq_true, if_false, pure_bind, closOf]
        exact ih _ hr
  have := go scope.names [] h
  unfold closureFor
  simp only [bind_pure_comp] at this ⊢
  first
    | exact this
    | (simpa using this)
structure CompFr (X : Cx) (NX : List Str) (outer scope : Scope) (N : List Str) (fr : List (Option Nat)) : Prop where
  nx : X.N = NX
  sc : X.env.scope.names = outer.names
  ok1 : scOk outer scope = true
  ok2 : frOk NX scope.names N fr = true
theorem CompFr.ok {X : Cx} {NX : List Str} {outer scope : Scope} {N : List Str} {fr : List (Option Nat)} (C : CompFr X NX outer scope N fr) (ok : X.Ok) : CompOk X scope N fr := by
  have h1 := C.ok1
  unfold scOk at h1
  simp only [Bool.and_eq_true, decide_eq_true_eq, List.all_eq_true, Bool.or_eq_true] at h1
  obtain ⟨hk, hn⟩ := h1
  have kof : ∀ x, X.env.kindOf x = outer.names.lookup x := fun x => by
    show X.env.scope.names.lookup x = _
    rw [C.sc]
  have hfree : ∀ y ∈ scope.names, y.2 = .free → X.env.kindOf y.1 = some .cell ∨ X.env.kindOf y.1 = some .free := fun y hy e => by
    rcases (hn y hy).2 with (z | z) | z
    · exact absurd e z
    · exact .inl ((kof _).trans z)
    · exact .inr ((kof _).trans z)
  have hcell : ∀ y ∈ scope.names, y.2 = .free → ∃ c, X.env.cells.lookup y.1 = some c := fun y hy e => ok.has y.1 (hfree y hy e)
  refine ⟨closureFor_eq hcell, hk, fun y hy => (hn y hy).1.1, fun y hy e => ?_, fun x c e => ?_, fun x h => ?_, frOk_len C.ok2, fun i j e => ?_⟩
  · rcases (hn y hy).1.2 with z | z
    · exact absurd e z
    · exact z
  · exact closOf_mem hcell (fun p hp => by cases hp) (x, c) (PySem.mem_of_lookup e)
  · have hm : (x, NameKind.free) ∈ scope.names := by
      rcases h with h | h
      · obtain ⟨k0, h1, h2⟩ := mem_relabel h
        rcases h2 with h2 | ⟨h2, _⟩
        · exact absurd h2.symm (hn _ h1).1.1
        · subst h2; exact h1
      · obtain ⟨k0, h1, h2⟩ := mem_relabel h
        rcases h2 with h2 | ⟨_, h2⟩
        · subst h2; exact h1
        · cases h2
    obtain ⟨c, hc⟩ := closOf_has (env := X.env) (cs := []) hm
    exact lookup_of_mem hc
  · obtain ⟨x, q1, q2, q3⟩ := frOk_get C.ok2 e
    have hm := PySem.mem_of_lookup q3
    have hf := hfree (x, .free) hm rfl
    refine ⟨x, q1, by rw [C.nx]; exact q2, ?_, ?_, lookup_relabel_free q3⟩
    · exact .inr hf
    · intro z
      dsimp only at hf
      rw [z] at hf
      rcases hf with hf | hf <;> cases hf

section
variable {X : Cx} {scope : Scope} {N : List Str} {fr : List (Option Nat)} {pins : List (Addr × Obj)} {σ : St} {H : Hp} {s : Shared} {fp : List Addr}
/-- the block's start: s the state ahead of its dict -/
theorem inv_comp (C : CompOk X scope N fr) (I : Inv X pins σ H s) (hf : ∀ b ∈ fp, FpOk X pins H b) (hob : ∀ b ∈ fp, ∃ o, s.heap.get? b = some o) {h1 : Heap} {tk : Nat}
    (hns : h1.Ns s.heap.objs.size fun _ => none) (hk : ∀ b o, s.heap.get? b = some o → h1.get? b = some o) :
    Inv (cxComp X scope N fp s H) [] (frees fr σ) H { s with heap := h1, toks := tk } := by
  have lt : ∀ b ∈ fp, b < s.heap.objs.size := fun b hb => let ⟨_, e⟩ := hob b hb; Heap.lt_size e
  have cellK : ∀ x c, (closOf X.env scope.names []).lookup x = some c → ∃ v, s.heap.IsCell c v := fun x c e => I.cell x c (C.cells x c e)
  have ck : ∀ c v, s.heap.IsCell c v → h1.IsCell c v := fun c v ⟨o, e, d⟩ => ⟨o, hk c o e, d⟩
  refine ⟨⟨I.ok.mod, C.kind, I.ok.glob, I.ok.blt, Nat.le_refl _, fun x y c e1 e2 => I.ok.inj x y c (C.cells x c e1) (C.cells y c e2), fun x h => C.has x h, fun x c h _ => absurd h Bool.false_ne_true, I.ok.hd, I.ok.frames, .inl rfl,
      fun b hb => ⟨Nat.ne_of_lt (lt b hb), fun x c e => (hf b hb).2.2.2.2.1 x c (C.cells x c e)⟩, I.bs, Nat.le_trans I.ok.bsz I.sz, fun b o e hb => ?_, fun b hb hb' => ?_, I.stack, I.stkFree⟩,
    rfl, I.bare, Un.kept hk, ⟨_, hns, fun i x v e1 e2 e3 => ?_⟩, fun x c e => ?_, I.hok.fresh (Nat.le_refl _), fun x c e => I.freeC x c (C.cells x c e), fun p hp => absurd (show p ∈ ([] : List (Addr × Obj)) from hp) (by simp), I.hok.kept hk, ?_⟩
  · rcases (hf b hb).2.2.2.1 with z | z
    · exact I.ok.noex b o e z
    · exact absurd (Nat.lt_of_lt_of_le (Heap.lt_size (I.ok.bs b o e).1) z) (Nat.lt_irrefl _)
  · rcases List.mem_cons.mp (I.stkSub b hb') with z | z
    · exact (hf b hb).2.1 z
    · exact (hf b hb).2.2.1 z
  · obtain ⟨j, q1, q2⟩ := frees_get e2
    obtain ⟨x', n1, n2, vis, nl, k⟩ := C.fr i j q1
    have ex : x = x' := Option.some.inj (e1.symm.trans n1)
    subst ex
    obtain ⟨m, hm, hl⟩ := I.loc
    obtain ⟨u, r, l⟩ := hl j x v n2 q2 vis
    refine ⟨u, r, ?_⟩
    rcases l with ⟨l1, _⟩ | ⟨_, c, l2, l3⟩
    · exact absurd l1 nl
    · obtain ⟨c', hc'⟩ := C.has x k
      have ec := C.cells x c' hc'
      rw [l2] at ec
      have ec' : c = c' := Option.some.inj ec
      subst ec'
      exact .inr ⟨k, c, hc', ck c _ l3⟩
  · obtain ⟨v, z⟩ := cellK x c e
    exact ⟨v, ck c v z⟩
  · show (frees fr σ).length = N.length
    rw [frees_length, C.len]
/-- .. and its end: the body around goes on -/
theorem inv_uncomp (I : Inv X pins σ H s) (hf : ∀ b ∈ fp, FpOk X pins H b) {σ' : St} {H' : Hp} {s' : Shared} (J : Inv (cxComp X scope N fp s H) [] σ' H' s') : Inv X pins σ H' s' :=
  I.call' (ch := fp) J.os J.base J.hok J.bare fun b hb => ⟨(hf b hb).2.2.2.1, (hf b hb).2.1, (hf b hb).2.2.2.2.1, (hf b hb).2.2.2.2.2⟩
end

/-- the tests of a comprehension -/
def PTs (X : Cx) (ifs : List Expr) (t : TT) : Prop :=
  ∀ (pins : List (Addr × Obj)) (s : Shared) (σ : St) (H : Hp) (Q : Bool → Hp → Prop), Inv X pins σ H s → t σ H Q →
    wpAny (model X.prog X.w) X.A (testsOf ifs X.env) (TP X pins σ Q) X.xe s
def tAlways : TT := fun _ H Q => Q true H
theorem pts_nil {X : Cx} : PTs X [] tAlways := fun _ _ _ H _ I h => wpAny_tests_nil ⟨H, I, h⟩
theorem pts_one {X : Cx} {c : Expr} {t : TT} (h : PT X c t) : PTs X [c] t := fun pins s σ H Q I hw => wpAny_tests_one (h pins s σ H Q I hw)

/-- the block walks: W says what holds at turn i, with the measure m, the list so far ys -/
def CompW (J : It) (g : TG) (tt : TT) (te : TE) (D : Addr) (W : Nat → Nat → List V → St → Hp → Prop) (fin : Hp → Prop) : Prop :=
  ∀ i m ys σ H, W i m ys σ H → H D = some (.lst ys) ∧ ((J.stop i H ∧ fin H) ∨ (J.go i H ∧ ∃ N : List V → St → Hp → Prop, (∀ ys' σ' H', N ys' σ' H' → ∃ m', m' < m ∧ W (i + 1) m' ys' σ' H') ∧
    ∀ x H', J.yld i H x H' → g x σ H' fun σ2 H2 => tt σ2 H2 fun ok H3 =>
      if ok = true then te σ2 H3 fun y H4 => H4 D = some (.lst ys) ∧ ys.length < sizeLine ∧ N (ys ++ [y]) σ2 (upd H4 D (.lst (ys ++ [y]))) else N ys σ2 H3))
abbrev DG := List Addr → Shared → Hp → TG
abbrev DT := List Addr → Shared → Hp → TT
abbrev DE := List Addr → Shared → Hp → TE
def tComp (wi : TI) (fr : List (Option Nat)) (g : DG) (tt : DT) (te : DE) : TE := fun σ H Q => wi σ H fun J H1 => ∀ D fp sx, H1 D = none →
  ∃ W : Nat → Nat → List V → St → Hp → Prop, (∃ m, W 0 m [] (frees fr σ) (upd H1 D (.lst []))) ∧ CompW J (g fp sx (upd H1 D (.lst []))) (tt fp sx (upd H1 D (.lst []))) (te fp sx (upd H1 D (.lst []))) D W (fun H => Q (.ref D) H)

section
variable {X : Cx} {scope : Scope} {N : List Str} {fr : List (Option Nat)} {tg elt iter : Expr} {ifs : List Expr} {pos : Pos} {wi : TI} {g : DG} {tt : DT} {te : DE}
/-- what the block does, at its end as compPost has it -/
theorem comp_run {pins : List (Addr × Obj)} {σ : St} {s2 : Shared} {it : Addr} {fp : List Addr} {tn : Nat → Heap → Prop} {J : It} {H2 : Hp} {RR : Value → Addr → Result → Shared → Prop} {E : Value → Shared → Prop}
    (hc : X.calm = true) (C : CompOk X scope N fr)
    (hg : ∀ fp s H, PG (cxComp X scope N fp s H) tg (g fp s H)) (ht : ∀ fp s H, PTs (cxComp X scope N fp s H) ifs (tt fp s H)) (he : ∀ fp s H, PE (cxComp X scope N fp s H) elt (te fp s H))
    (I2 : Inv X pins σ H2 s2) (T : Turn X.prog X.w X.K tg J fp it tn) (st2 : tn 0 s2.heap) (f2 : ∀ b ∈ fp, FpOk X pins H2 b) {fin : Addr → Hp → Prop}
    (hW : ∀ D fp sx, H2 D = none → ∃ W : Nat → Nat → List V → St → Hp → Prop, (∃ m, W 0 m [] (frees fr σ) (upd H2 D (.lst []))) ∧ CompW J (g fp sx (upd H2 D (.lst []))) (tt fp sx (upd H2 D (.lst []))) (te fp sx (upd H2 D (.lst []))) D W (fin D))
    (hend : ∀ D Cc s' σ' H' m, Inv X pins σ H' s' → H' Cc = none → Cc ≠ X.env.locals → Cc ∉ X.fs → X.s₀.heap.objs.size ≤ Cc → (∀ x c, X.env.cells.lookup x = some c → c ≠ Cc) → (∀ p ∈ X.pn ++ pins, p.1 ≠ Cc) → s'.heap.Ns Cc m → fin D H' →
      RR (.ref D) Cc (.ok σ') s') :
    wpAny (model X.prog X.w) X.A (newList []) (fun acc s₃ => wpAny (model X.prog X.w) X.A (newFunctionEnv scope X.env.globals (closOf X.env scope.names []) [] X.env.qual none .none (some X.env)) (fun cenv s₄ =>
      codeAny (model X.prog X.w) X.A (.compStart (.ListComp elt [⟨tg, iter, ifs, 0⟩] scope pos) 0 (.ref it) acc { cenv with scope := relabel scope X.env }) (RR acc cenv.locals) s₄) E s₃) E s2 := by
  refine wpAny_newObj_type (wpAny_newFunctionEnv C.nocell (by intro y hy; simp at hy) (fun h₁ hns₁ hsb₁ => ?_) C.kind)
  dsimp only at hns₁ hsb₁ ⊢
  have I3 : Inv X pins σ (upd H2 s2.heap.objs.size (.lst [])) { s2 with heap := s2.heap.push { cls := .type "list", dict := none, data := .seq ([] : List Value).toArray } } :=
    I2.laid (t' := s2.toks) (fun b o e => Heap.get?_push_of_some _ e) (Nat.le_refl _) ⟨Nat.zero_le _, [], 0, .nil, Heap.get?_push_size _ rfl⟩
  have hD : H2 s2.heap.objs.size = none := I2.hok.fresh (Nat.le_refl _)
  obtain ⟨W, ⟨m0, w0⟩, turn⟩ := hW _ fp { s2 with heap := s2.heap.push { cls := .type "list", dict := none, data := .seq ([] : List Value).toArray } } hD
  generalize hDD : s2.heap.objs.size = D at *
  generalize hS3 : ({ s2 with heap := s2.heap.push { cls := .type "list", dict := none, data := .seq ([] : List Value).toArray } } : Shared) = S3 at *
  have hS3h : s2.heap.push { cls := .type "list", dict := none, data := .seq ([] : List Value).toArray } = S3.heap := by rw [← hS3]
  rw [hS3h] at hns₁ hsb₁ ⊢
  have obj2 := T.obj 0 _ st2
  have nD : ∀ b ∈ fp, b ≠ D := fun b hb z => by
    obtain ⟨o, e, _⟩ := obj2 b hb
    have q := Heap.lt_size e
    rw [hDD, z] at q
    exact absurd q (Nat.lt_irrefl _)
  have f3 : ∀ b ∈ fp, FpOk X pins (upd H2 D (.lst [])) b := fun b hb => ⟨by rw [upd_ne (nD b hb)]; exact (f2 b hb).1, (f2 b hb).2⟩
  have ob3 : ∀ b ∈ fp, ∃ o, S3.heap.get? b = some o := fun b hb => by
    obtain ⟨o, e, _⟩ := obj2 b hb
    exact ⟨o, by rw [← hS3h]; exact Heap.get?_push_of_some _ e⟩
  have st3 : tn 0 S3.heap := T.keep _ _ _ st2 fun b hb o e => by rw [← hS3h]; exact Heap.get?_push_of_some _ e
  have hk1 : ∀ b o, S3.heap.get? b = some o → h₁.get? b = some o := fun b o e => hsb₁.extBut b o (Nat.ne_of_lt (Heap.lt_size e)) (Heap.get?_push_of_some _ e)
  have J1 : Inv (cxComp X scope N fp S3 (upd H2 D (.lst []))) [] (frees fr σ) (upd H2 D (.lst [])) { S3 with heap := h₁, toks := s2.toks + ([] : List (Str × Value)).length } := inv_comp C I3 f3 ob3 hns₁ hk1
  have st4 : tn 0 h₁ := T.keep _ _ _ st3 fun b hb o e => hk1 b o e
  have es : ({ s2 with heap := h₁, toks := s2.toks + ([] : List (Str × Value)).length } : Shared) = { S3 with heap := h₁, toks := s2.toks + ([] : List (Str × Value)).length } := by rw [← hS3]
  have FpC : ∀ {H' : Hp}, (∀ b ∈ fp, H' b = none) → ∀ b ∈ fp, FpOk (cxComp X scope N fp S3 (upd H2 D (.lst []))) [] H' b := fun hn b hb =>
    ⟨hn b hb, (J1.ok.exf b hb).1, J1.ok.exfs b hb, .inl hb, (J1.ok.exf b hb).2, fun p hp => absurd (show p ∈ ([] : List (Addr × Obj)) from hp) (by simp)⟩
  have loop : codeAny (model X.prog X.w) X.A (.compLoop (.ListComp elt [⟨tg, iter, ifs, 0⟩] scope pos) 0 (.ref it) (.ref D) (cxComp X scope N fp S3 (upd H2 D (.lst []))).env) (RR (.ref D) S3.heap.objs.size)
      { S3 with heap := h₁, toks := s2.toks + ([] : List (Str × Value)).length } := by
    refine compLoop_gen (fun n s' => ∃ i ys σ' H', Inv (cxComp X scope N fp S3 (upd H2 D (.lst []))) [] σ' H' s' ∧ tn i s'.heap ∧ (∀ b ∈ fp, H' b = none) ∧ W i n ys σ' H') ?_ m0 ⟨0, [], _, _, J1, st4, fun b hb => (f3 b hb).1, w0⟩
    rintro n s5 ⟨i, ys, σ5, H5, J5, st5, fr5, w5⟩
    obtain ⟨hDl, alt⟩ := turn i n ys σ5 H5 w5
    rcases alt with ⟨stop, fi⟩ | ⟨go, NN, hNN, step⟩
    · refine thn (T.done (cxComp X scope N fp S3 (upd H2 D (.lst []))) rfl rfl rfl hc i [] s5 σ5 H5 noE J5 (FpC fr5) st5 stop) fun r s6 ⟨hr, J6⟩ => ?_
      subst hr
      show RR (.ref D) S3.heap.objs.size (.ok .next) s6
      have I6 := inv_uncomp I3 f3 J6
      obtain ⟨mm, hmm, _⟩ := J6.loc
      refine hend D _ s6 _ H5 mm I6 J6.free ?_ ?_ ?_ ?_ ?_ hmm fi
      · exact Nat.ne_of_gt I3.lt
      · exact I3.nofs (Nat.le_refl _)
      · exact I3.sz
      · intro x c e z
        obtain ⟨v, q⟩ := I3.cell x c e
        exact absurd q.lt (by rw [z]; exact Nat.lt_irrefl _)
      · intro p hp z
        exact absurd (Heap.lt_size (I3.pin p hp).1) (by rw [z]; exact Nat.lt_irrefl _)
    · refine thn (T.item (cxComp X scope N fp S3 (upd H2 D (.lst []))) rfl rfl rfl hc i [] s5 σ5 H5 noE J5 (FpC fr5) st5 go) fun r s6 ⟨u, hr, h6⟩ => ?_
      subst hr
      refine thn (Q := _) h6 fun _ s7 ⟨x, H7, J7, r7, y7, st7, fr7⟩ => ?_
      have J7' := J7.pinned (FpC fr7) (T.obj _ _ st7)
      have back : ∀ {σ9 : St} {H9 : Hp} {s9 : Shared}, Inv (cxComp X scope N fp S3 (upd H2 D (.lst []))) ([] ++ pinsAt fp s7.heap) σ9 H9 s9 → tn (i + 1) s9.heap ∧ ∀ b ∈ fp, H9 b = none := fun {σ9 H9 s9} J9 =>
        ⟨T.keep _ _ _ st7 fun b hb o e => (J9.pin (b, o) (List.mem_append_right _ (List.mem_append_right _ (mem_pinsAt hb e)))).1, fun b hb => by
          obtain ⟨o, e, d⟩ := T.obj _ _ st7 b hb
          exact (J9.pin (b, o) (List.mem_append_right _ (List.mem_append_right _ (mem_pinsAt hb e)))).2.1⟩
      refine thn (hg fp S3 _ _ s7 σ5 H7 x u _ J7' r7 (step x H7 y7)) fun _ s8 ⟨σ8, H8, J8, q8⟩ => ?_
      refine thn (ht fp S3 _ _ s8 σ8 H8 _ J8 q8) fun ok s9 ⟨H9, J9, q9⟩ => ?_
      cases ok with
      | false =>
        rw [if_neg Bool.false_ne_true] at q9
        unfold TurnEnd
        rw [if_neg Bool.false_ne_true]
        obtain ⟨m', hm, w9⟩ := hNN _ _ _ q9
        exact ⟨m', hm, i + 1, ys, σ8, H9, J9.unpinned, (back J9).1, (back J9).2, w9⟩
      | true =>
        rw [if_pos rfl] at q9
        unfold TurnEnd
        rw [if_pos rfl]
        refine thn (he fp S3 _ _ s9 σ8 H9 _ J9 q9) fun yv s10 ⟨y, H10, J10, r10, hD10, hz, n10⟩ => ?_
        obtain ⟨m', hm, w10⟩ := hNN _ _ _ n10
        refine thn (mt_append (X := cxComp X scope N fp S3 (upd H2 D (.lst []))) _ s10 σ8 H10 (.ref D) [y] (.ref D) [yv] (fun _ H' => H' = upd H10 D (.lst (ys ++ [y]))) J10 rfl (.cons r10 .nil) ⟨D, ys, y, rfl, rfl, hD10, hz, rfl⟩) fun _ s11 ⟨v11, H11, J11, _, e11⟩ => ?_
        subst e11
        exact ⟨m', hm, i + 1, ys ++ [y], σ8, _, J11.unpinned, (back J11).1, (back J11).2, w10⟩
  rw [es]
  exact codeAny_compStart_list loop (T.self _ 0 _ _ _ st4 loop)

theorem pe_comp {NX : List Str} {outer : Scope} (hc : X.calm = true) (hi : PI X tg iter wi) (C : CompFr X NX outer scope N fr)
    (hg : ∀ fp s H, PG (cxComp X scope N fp s H) tg (g fp s H)) (ht : ∀ fp s H, PTs (cxComp X scope N fp s H) ifs (tt fp s H)) (he : ∀ fp s H, PE (cxComp X scope N fp s H) elt (te fp s H))
    (hs : ∀ x, foldedSetIterable iter X.env x = pure x := by intro _; rfl) : PE X (.ListComp elt [⟨tg, iter, ifs, 0⟩] scope pos) (tComp wi fr g tt te) := by
  intro pins s σ H Q I h
  have C := C.ok I.ok
  rw [eval_ListComp]
  refine wpAny_comprehension_free (use := none) rfl hs C.clos C.kind C.names (thn (hi pins s σ H _ I h) fun v s1 h1 => thn h1 fun itv s2 h2 => ?_)
  obtain ⟨it, fp, tn, J, H2, e, I2, T, st2, f2, hW⟩ := h2
  subst e
  refine comp_run (RR := fun acc Cc => compPost (model X.prog X.w) X.A X.xe none (EP X pins σ Q) acc Cc) hc C hg ht he I2 T st2 f2 hW ?_
  intro D Cc s' fl H' m I' f0 f1 f2' f3 f4 f5 hns fi
  refine ⟨m, hns, fun h' sb => ?_⟩
  exact ⟨.ref D, H', I'.turned (t' := s'.toks) (fun b o hb e => (sb.2 b hb).trans e) f0 f1 (.inr f3) f4 f5, rfl, fi⟩
/-- name = [..], where the two stores are exchanged -/
theorem ps_setComp {NX : List Str} {outer : Scope} {i : Nat} {x : Str} {pos' pos2 : Pos} (hN : X.N.Nodup) (hix : X.N[i]? = some x) (hx : Loc X.env.scope x) (hc : X.calm = true) (hi : PI X tg iter wi) (C : CompFr X NX outer scope N fr)
    (hg : ∀ fp s H, PG (cxComp X scope N fp s H) tg (g fp s H)) (ht : ∀ fp s H, PTs (cxComp X scope N fp s H) ifs (tt fp s H)) (he : ∀ fp s H, PE (cxComp X scope N fp s H) elt (te fp s H))
    (hsw : swapsWith (.ListComp elt [⟨tg, iter, ifs, 0⟩] scope pos) (some (.Name x pos')) pos2.line X.env = pure true := by rfl)
    (hs : ∀ x, foldedSetIterable iter X.env x = pure x := by intro _; rfl) (hf : X.fn x = true ∨ X.env.scope.names.lookup x = some .local := by first | exact .inl rfl | exact .inr rfl | assumption) :
    PS X (.Assign [.Name x pos'] (.ListComp elt [⟨tg, iter, ifs, 0⟩] scope pos) pos2) (tAsg (tComp wi fr g tt te) (gName i)) := by
  intro pins s σ H Dd I h
  have C := C.ok I.ok
  rw [exec_Assign_Name_used _ _ _ _ hsw]
  refine wpAny_bind (wpAny_standAt (wpAny_bind ?_))
  show wpAny _ X.A (do let _ ← comprehension (.ListComp elt [⟨tg, iter, ifs, 0⟩] scope pos) scope X.env _ (newList []) false (eval iter X.env) (some (assign (.Name x pos') X.env))) _ _ s
  refine wpAny_bind (wpAny_mono (wpAny_comprehension_free (use := some (assign (.Name x pos') X.env)) (Q := fun _ s' => SP X pins Dd .next s') rfl hs C.clos C.kind C.names
    (thn (hi pins s σ H _ I h) fun v s1 h1 => thn h1 fun itv s2 h2 => ?_)) (fun _ s' hq => wpAny_pure (wpAny_pure hq)) fun _ _ e => e)
  obtain ⟨it, fp, tn, J, H2, e, I2, T, st2, f2, hW⟩ := h2
  subst e
  refine comp_run (RR := fun acc Cc => compPost (model X.prog X.w) X.A X.xe (some (assign (.Name x pos') X.env)) (fun _ s' => SP X pins Dd .next s') acc Cc) hc C hg ht he I2 T st2 f2 hW ?_
  intro D Cc s' fl H' m I' f0 f1 f2' f3 f4 f5 hns fi
  show wpAny _ X.A (assign (.Name x pos') X.env (.ref D)) _ _ _
  refine wpAny_assign_Name (store_ok2 (v := .ref D) I' hN hix hx rfl (fun s3 I3 ⟨a, sb, ha⟩ => ?_) hf)
  have na : Cc ≠ a := by
    rcases ha with z | z
    · rw [z]; exact f1
    · exact fun q => f4 x a z q.symm
  refine ⟨m, hns.sameBut sb na, fun h' sb' => ?_⟩
  exact ⟨_, H', I3.turned (t' := s3.toks) (fun b o hb e => (sb'.2 b hb).trans e) f0 f1 (.inr f3) f4 f5, fi⟩
end

/-- over a tuple -/
theorem comp_tup {K : PySem.W.Frag} {a D : Addr} {xs : List V} {g : TG} {tt : TT} {te : TE} {fin : Hp → Prop} {σ0 : St} {H0 : Hp} (Pv : Nat → List V → St → Hp → Prop) (h0 : Pv 0 [] σ0 H0)
    (hq : ∀ i ys σ H, i ≤ xs.length → Pv i ys σ H → SqT K H a xs ∧ H D = some (.lst ys))
    (hs : ∀ i x ys σ H, xs[i]? = some x → Pv i ys σ H → g x σ H fun σ2 H2 => tt σ2 H2 fun ok H3 => if ok = true then te σ2 H3 fun y H4 => H4 D = some (.lst ys) ∧ ys.length < sizeLine ∧ Pv (i + 1) (ys ++ [y]) σ2 (upd H4 D (.lst (ys ++ [y]))) else Pv (i + 1) ys σ2 H3)
    (hd : ∀ ys σ H, Pv xs.length ys σ H → fin H) : ∃ W : Nat → Nat → List V → St → Hp → Prop, (∃ m, W 0 m [] σ0 H0) ∧ CompW (Itt K a) g tt te D W fin := by
  refine ⟨fun i m ys σ H => m = xs.length - i ∧ i ≤ xs.length ∧ Pv i ys σ H, ⟨xs.length, by simp, Nat.zero_le _, h0⟩, ?_⟩
  rintro i m ys σ H ⟨rfl, hi, p⟩
  obtain ⟨q, hD⟩ := hq i ys σ H hi p
  refine ⟨hD, ?_⟩
  by_cases hlt : i < xs.length
  · refine .inr ⟨⟨xs, xs[i], q, by simp [hlt]⟩, Pv (i + 1), fun ys' σ' H' p' => ⟨xs.length - (i + 1), by omega, rfl, hlt, p'⟩, fun x H' y => ?_⟩
    obtain ⟨e, y⟩ := y
    subst e
    exact hs i x ys σ _ (y xs q) p
  · have e : i = xs.length := by omega
    subst e
    exact .inl ⟨⟨xs, q, Nat.le_refl _⟩, hd ys σ H p⟩
theorem comp_list {K : PySem.W.Frag} {a D : Addr} {xs : List V} {g : TG} {tt : TT} {te : TE} {fin : Hp → Prop} {σ0 : St} {H0 : Hp} (Pv : Nat → List V → St → Hp → Prop) (h0 : Pv 0 [] σ0 H0)
    (hq : ∀ i ys σ H, i ≤ xs.length → Pv i ys σ H → SqL K H a xs ∧ H D = some (.lst ys))
    (hs : ∀ i x ys σ H, xs[i]? = some x → Pv i ys σ H → g x σ H fun σ2 H2 => tt σ2 H2 fun ok H3 => if ok = true then te σ2 H3 fun y H4 => H4 D = some (.lst ys) ∧ ys.length < sizeLine ∧ Pv (i + 1) (ys ++ [y]) σ2 (upd H4 D (.lst (ys ++ [y]))) else Pv (i + 1) ys σ2 H3)
    (hd : ∀ ys σ H, Pv xs.length ys σ H → fin H) : ∃ W : Nat → Nat → List V → St → Hp → Prop, (∃ m, W 0 m [] σ0 H0) ∧ CompW (Itl K a) g tt te D W fin := by
  refine ⟨fun i m ys σ H => m = xs.length - i ∧ i ≤ xs.length ∧ Pv i ys σ H, ⟨xs.length, by simp, Nat.zero_le _, h0⟩, ?_⟩
  rintro i m ys σ H ⟨rfl, hi, p⟩
  obtain ⟨q, hD⟩ := hq i ys σ H hi p
  refine ⟨hD, ?_⟩
  by_cases hlt : i < xs.length
  · refine .inr ⟨⟨xs, xs[i], q, by simp [hlt]⟩, Pv (i + 1), fun ys' σ' H' p' => ⟨xs.length - (i + 1), by omega, rfl, hlt, p'⟩, fun x H' y => ?_⟩
    obtain ⟨e, y⟩ := y
    subst e
    exact hs i x ys σ _ (y xs q) p
  · have e : i = xs.length := by omega
    subst e
    exact .inl ⟨⟨xs, q, Nat.le_refl _⟩, hd ys σ H p⟩
theorem comp_range {lo : Int} {n : Nat} {D : Addr} {g : TG} {tt : TT} {te : TE} {fin : Hp → Prop} {σ0 : St} {H0 : Hp} (Pv : Nat → List V → St → Hp → Prop) (h0 : Pv 0 [] σ0 H0)
    (hq : ∀ i ys σ H, i ≤ n → Pv i ys σ H → H D = some (.lst ys))
    (hs : ∀ i ys σ H, i < n → Pv i ys σ H → g (.int (lo + i)) σ H fun σ2 H2 => tt σ2 H2 fun ok H3 => if ok = true then te σ2 H3 fun y H4 => H4 D = some (.lst ys) ∧ ys.length < sizeLine ∧ Pv (i + 1) (ys ++ [y]) σ2 (upd H4 D (.lst (ys ++ [y]))) else Pv (i + 1) ys σ2 H3)
    (hd : ∀ ys σ H, Pv n ys σ H → fin H) : ∃ W : Nat → Nat → List V → St → Hp → Prop, (∃ m, W 0 m [] σ0 H0) ∧ CompW (Itr lo n) g tt te D W fin := by
  refine ⟨fun i m ys σ H => m = n - i ∧ i ≤ n ∧ Pv i ys σ H, ⟨n, by simp, Nat.zero_le _, h0⟩, ?_⟩
  rintro i m ys σ H ⟨rfl, hi, p⟩
  refine ⟨hq i ys σ H hi p, ?_⟩
  by_cases hlt : i < n
  · refine .inr ⟨hlt, Pv (i + 1), fun ys' σ' H' p' => ⟨n - (i + 1), by omega, rfl, hlt, p'⟩, fun x H' y => ?_⟩
    obtain ⟨e, y⟩ := y
    subst e y
    exact hs i ys σ _ hlt p
  · have e : i = n := by omega
    subst e
    exact .inl ⟨Nat.le_refl _, hd ys σ H p⟩
end L2
set_option linter.all false
namespace SetM
open PySem
/-- strictly rising -/
def Ris (xs : Array Nat) : Prop := ∀ a b (h : a < b) (hb : b < xs.size), xs[a]'(Nat.lt_trans h hb) < xs[b]
theorem getD_in {xs : Array Nat} {i d : Nat} (h : i < xs.size) : xs.getD i d = xs[i] := by simp [Array.getD, h]
theorem go_spec {xs : Array Nat} {j : Nat} (hr : Ris xs) : ∀ (fuel lo hi : Nat), hi - lo ≤ fuel → lo ≤ hi → hi ≤ xs.size → (∀ i (h : i < xs.size), i < lo → xs[i] < j) → (∀ i (h : i < xs.size), hi ≤ i → j ≤ xs[i]) →
    (∀ i (h : i < xs.size), i < SetTable.below.go xs j fuel lo hi → xs[i] < j) ∧ (∀ i (h : i < xs.size), SetTable.below.go xs j fuel lo hi ≤ i → j ≤ xs[i]) ∧ SetTable.below.go xs j fuel lo hi ≤ xs.size
  | 0, lo, hi, hf, hl, hs, h1, h2 => by
    have e : lo = hi := by omega
    subst e
    simp only [SetTable.below.go]
    exact ⟨h1, h2, hs⟩
  | fuel + 1, lo, hi, hf, hl, hs, h1, h2 => by
    simp only [SetTable.below.go]
    by_cases h : lo < hi
    · rw [if_pos h]
      have hm : (lo + hi) / 2 < xs.size := by omega
      rw [getD_in hm]
      by_cases hc : xs[(lo + hi) / 2] < j
      · rw [if_pos hc]
        refine go_spec hr fuel _ _ (by omega) (by omega) hs (fun i hi' hlt => ?_) h2
        rcases Nat.lt_or_ge i ((lo + hi) / 2) with z | z
        · exact Nat.lt_trans (hr i _ z hm) hc
        · have e : i = (lo + hi) / 2 := by omega
          subst e; exact hc
      · rw [if_neg hc]
        refine go_spec hr fuel _ _ (by omega) (by omega) (by omega) h1 (fun i hi' hle => ?_)
        rcases Nat.lt_or_ge ((lo + hi) / 2) i with z | z
        · have := hr _ i z hi'; omega
        · have e : i = (lo + hi) / 2 := by omega
          subst e; omega
    · rw [if_neg h]
      have e : lo = hi := by omega
      subst e
      exact ⟨h1, h2, hs⟩
theorem below_spec {xs : Array Nat} {j : Nat} (hr : Ris xs) : (∀ i (h : i < xs.size), i < SetTable.below xs j → xs[i] < j) ∧ (∀ i (h : i < xs.size), SetTable.below xs j ≤ i → j ≤ xs[i]) ∧ SetTable.below xs j ≤ xs.size :=
  go_spec hr xs.size 0 xs.size (by omega) (by omega) (Nat.le_refl _) (fun i _ h => by omega) (fun i h h' => by omega)
/-- the place behind the i-th one -/
theorem below_next {xs : Array Nat} (hr : Ris xs) {i : Nat} (h : i < xs.size) : SetTable.below xs (xs[i] + 1) = i + 1 := by
  obtain ⟨h1, h2, h3⟩ := below_spec (j := xs[i] + 1) hr
  rcases Nat.lt_trichotomy (SetTable.below xs (xs[i] + 1)) (i + 1) with z | z | z
  · have := h2 i h (by omega); omega
  · exact z
  · have hi : i + 1 < xs.size := by omega
    have := h1 (i + 1) hi z
    have := hr i (i + 1) (by omega) hi
    omega
theorem below_zero {xs : Array Nat} (hr : Ris xs) : SetTable.below xs 0 = 0 := by
  obtain ⟨h1, h2, h3⟩ := below_spec (j := 0) hr
  rcases Nat.eq_zero_or_pos (SetTable.below xs 0) with z | z
  · exact z
  · have := h1 0 (by omega) z; omega
theorem ris_range (n : Nat) : Ris (Array.range n) := fun a b h hb => by simp; omega
theorem insert_get {xs : Array Nat} {p j : Nat} (hp : p ≤ xs.size) : ∀ i, (SetTable.insertAt xs p j)[i]? = if i < p then xs[i]? else if i = p then some j else xs[i - 1]? := by
  intro i
  unfold SetTable.insertAt
  have hs1 : ((xs.extract 0 p).push j).size = p + 1 := by simp; omega
  rw [Array.getElem?_append, hs1]
  by_cases h1 : i < p + 1
  · rw [if_pos h1, Array.getElem?_push]
    have hs2 : (xs.extract 0 p).size = p := by simp; omega
    rw [hs2]
    by_cases h2 : i = p
    · rw [if_pos h2, if_neg (by omega), if_pos h2]
    · rw [if_neg h2, if_pos (by omega)]
      rw [Array.getElem?_extract]
      simp
      omega
  · rw [if_neg h1, if_neg (by omega), if_neg (by omega)]
    rw [Array.getElem?_extract]
    have e : p + (i - (p + 1)) = i - 1 := by omega
    rw [e]
    simp
    intro h
    omega
theorem insert_size {α : Type} {xs : Array α} {p : Nat} {j : α} (hp : p ≤ xs.size) : (SetTable.insertAt xs p j).size = xs.size + 1 := by
  unfold SetTable.insertAt
  simp
  omega
theorem ris_put {xs : Array Nat} {j : Nat} (hr : Ris xs) (hn : xs[SetTable.below xs j]? ≠ some j) : Ris (SetTable.insertAt xs (SetTable.below xs j) j) := by
  obtain ⟨h1, h2, h3⟩ := below_spec (j := j) hr
  generalize hk : SetTable.below xs j = k at h1 h2 h3 hn
  have g := insert_get (xs := xs) (j := j) h3
  intro a b hab hb
  rw [insert_size h3] at hb
  have ga := g a
  have gb := g b
  have ha' : a < (SetTable.insertAt xs k j).size := by rw [insert_size h3]; omega
  have hb' : b < (SetTable.insertAt xs k j).size := by rw [insert_size h3]; omega
  rw [Array.getElem?_eq_getElem ha'] at ga
  rw [Array.getElem?_eq_getElem hb'] at gb
  have strict : ∀ i (h : i < xs.size), k ≤ i → j < xs[i] := fun i h hk' => by
    have hle := h2 i h hk'
    rcases Nat.lt_or_ge k i with z | z
    · have hkz : k < xs.size := by omega
      have := hr k i z h
      have := h2 k hkz (Nat.le_refl _)
      omega
    · have e : i = k := by omega
      subst e
      rw [Array.getElem?_eq_getElem h] at hn
      have : xs[i] ≠ j := fun q => hn (by rw [q])
      omega
  by_cases a1 : a < k
  · rw [if_pos a1, Array.getElem?_eq_getElem (by omega)] at ga
    have ga' := Option.some.inj ga
    by_cases b1 : b < k
    · rw [if_pos b1, Array.getElem?_eq_getElem (by omega)] at gb
      have gb' := Option.some.inj gb
      rw [ga', gb']
      exact hr a b hab (by omega)
    · rw [if_neg b1] at gb
      by_cases b2 : b = k
      · rw [if_pos b2] at gb
        have gb' := Option.some.inj gb
        rw [ga', gb']
        exact h1 a (by omega) a1
      · rw [if_neg b2, Array.getElem?_eq_getElem (by omega)] at gb
        have gb' := Option.some.inj gb
        rw [ga', gb']
        exact hr a (b - 1) (by omega) (by omega)
  · rw [if_neg a1] at ga
    rw [if_neg (by omega), if_neg (by omega), Array.getElem?_eq_getElem (by omega)] at gb
    have gb' := Option.some.inj gb
    by_cases a2 : a = k
    · rw [if_pos a2] at ga
      have ga' := Option.some.inj ga
      rw [ga', gb']
      exact strict (b - 1) (by omega) (by omega)
    · rw [if_neg a2, Array.getElem?_eq_getElem (by omega)] at ga
      have ga' := Option.some.inj ga
      rw [ga', gb']
      exact hr (a - 1) (b - 1) (by omega) (by omega)
end SetM
namespace SetM
open PySem
/-- a table without removals -/
structure TabI (t : SetTable) (n : Nat) : Prop where
  size : t.place.size = n
  dum : t.dummies = #[]
  ris : Ris t.place
  room : n ≤ t.mask
theorem TabI.fits {t : SetTable} {n : Nat} (h : TabI t n) : t.fits n = true := by
  unfold SetTable.fits SetTable.fill
  rw [h.dum, h.size]
  simp
  exact h.room
theorem tab_fresh (f m : Nat) (led : Bool) : TabI (SetTable.fresh f m led) 0 := ⟨rfl, rfl, fun a b _ hb => by simp [SetTable.fresh] at hb, Nat.zero_le _⟩
theorem tab_standIn (t : SetTable) (n : Nat) : TabI (t.standIn n) n := ⟨by simp [SetTable.standIn], rfl, ris_range n, by simp [SetTable.standIn]; omega⟩
theorem has_nil (j : Nat) : SetTable.has #[] j = false := by simp [SetTable.has]
theorem tab_orStandIn {t : SetTable} {n : Nat} (hs : t.place.size = n) (hd : t.dummies = #[]) (hr : Ris t.place) : TabI (t.orStandIn n) n := by
  unfold SetTable.orStandIn
  split
  · rename_i h
    refine ⟨hs, hd, hr, ?_⟩
    unfold SetTable.fits SetTable.fill at h
    rw [hd, hs] at h
    simpa using h
  · exact tab_standIn t n
theorem probe_empty {t : SetTable} (hd : t.dummies = #[]) {f : Nat → Int} {h : Int} {j : Nat} {dm : Option Nat} : ∀ (fuel : Nat) (p : SetTable.Probe), p.dummy = none → SetTable.probe.go t f h fuel p = some (.empty j dm) → dm = none ∧ t.place[SetTable.below t.place j]? ≠ some j
  | 0, p, _, e => by simp [SetTable.probe.go] at e
  | fuel + 1, p, hp, e => by
    have adv : (t.advance p).dummy = none := by
      unfold SetTable.advance
      split
      · exact hp
      · exact hp
    simp only [SetTable.probe.go] at e
    cases hs : t.slot p.j with
    | empty =>
      rw [hs] at e
      simp only [Option.some.injEq, SetTable.Met.empty.injEq] at e
      obtain ⟨e1, e2⟩ := e
      subst e1
      refine ⟨by rw [← e2, hp], fun q => ?_⟩
      unfold SetTable.slot at hs
      simp [q] at hs
    | dummy =>
      exfalso
      unfold SetTable.slot at hs
      simp only [hd, has_nil] at hs
      split at hs <;> simp at hs
    | live i =>
      rw [hs] at e
      simp only at e
      split at e
      · simp at e
      · exact probe_empty hd fuel _ adv e
theorem tab_layNew {t : SetTable} {es : Array (Int × Value)} (h : TabI t es.size) (k : Int) (x : Value) : TabI (layNew t es k x).2.1 (layNew t es k x).1.size := by
  unfold layNew
  cases hf : t.freeSlot k with
  | none =>
    simp only
    have : (es.push (k, x)).size = es.size + 1 := by simp
    rw [this]
    exact tab_standIn t _
  | some sw =>
    obtain ⟨slot, wd⟩ := sw
    simp only
    unfold SetTable.freeSlot at hf
    have hn : t.place[SetTable.below t.place slot]? ≠ some slot := by
      cases hp : t.probe (fun _ => k + 1) k (t.probeStart k) with
      | none => rw [hp] at hf; simp at hf
      | some m =>
        rw [hp] at hf
        cases m with
        | candidate a b c => simp at hf
        | empty j dm =>
          obtain ⟨e1, e2⟩ := probe_empty h.dum _ (t.probeStart k) rfl hp
          subst e1
          simp at hf
          rw [← hf.1]
          exact e2
    obtain ⟨_, _, hb⟩ := below_spec (j := slot) h.ris
    have hb' : SetTable.below t.place slot ≤ es.size := by rw [← h.size]; exact hb
    have e1 : (t.put slot).2 = SetTable.below t.place slot := rfl
    refine tab_orStandIn ?_ ?_ ?_
    · rw [e1, insert_size hb']
      show (SetTable.insertAt t.place (SetTable.below t.place slot) slot).size = es.size + 1
      rw [insert_size hb, h.size]
    · show (if SetTable.has t.dummies slot then _ else t.dummies) = #[]
      rw [h.dum, has_nil]
      rfl
    · exact ris_put h.ris hn
theorem layNew_led {t : SetTable} {es : Array (Int × Value)} (k : Int) (x : Value) : (layNew t es k x).2.1.led = t.led := by
  unfold layNew
  split
  · simp only [SetTable.orStandIn]
    split <;> rfl
  · rfl
theorem range_live (n : Nat) (g : Nat → Option Nat) : ((List.range n).filterMap fun j => (g j).map (j, ·)).Pairwise fun a b => a.1 < b.1 := by
  rw [List.pairwise_filterMap]
  refine List.Pairwise.imp ?_ List.pairwise_lt_range
  intro a b hab c hc d hd
  cases ha : g a with
  | none => rw [ha] at hc; simp at hc
  | some u =>
    cases hb : g b with
    | none => rw [hb] at hd; simp at hd
    | some v =>
      rw [ha] at hc
      rw [hb] at hd
      simp at hc hd
      rw [← hc, ← hd]
      exact hab
theorem tab_relayAll {t : SetTable} {es : Array (Int × Value)} (wanted : Nat) : TabI (relayAll t es wanted).2.1 (relayAll t es wanted).1.size := by
  unfold relayAll
  cases hr : t.relaid (es.map (·.1)) wanted with
  | none => exact tab_standIn t _
  | some to =>
    obtain ⟨t', order⟩ := to
    simp only
    split
    · rename_i hc
      unfold SetTable.relaid SetTable.laid at hr
      cases hl : SetTable.layClean (SetTable.sizeAbove wanted - 1) (es.map (·.1)) with
      | none => rw [hl] at hr; simp at hr
      | some owner =>
        rw [hl] at hr
        simp at hr
        obtain ⟨h1, h2⟩ := hr
        have hfit := (Bool.and_eq_true_iff.mp hc).2
        have hd : t'.dummies = #[] := by rw [← h1]
        refine ⟨?_, hd, ?_, ?_⟩
        · unfold SetTable.fits at hfit
          simp at hfit
          exact hfit.1
        · rw [← h1]
          intro a b hab hb
          have hp := range_live (SetTable.sizeAbove wanted - 1 + 1) (fun j => owner[j]?.getD none)
          have hp2 : (((List.range (SetTable.sizeAbove wanted - 1 + 1)).filterMap fun j => (owner[j]?.getD none).map (j, ·)).map fun p => p.1).Pairwise (· < ·) := List.pairwise_map.mpr hp
          simp only [List.getElem_toArray]
          exact List.pairwise_iff_getElem.mp hp2 a b _ _ hab
        · unfold SetTable.fits SetTable.fill at hfit
          rw [hd] at hfit
          simp at hfit
          exact (hfit.1 ▸ hfit.2 : _)
    · exact tab_standIn t _
theorem relayAll_led {t : SetTable} {es : Array (Int × Value)} (wanted : Nat) : (relayAll t es wanted).2.1.led = t.led := by
  unfold relayAll
  cases hr : t.relaid (es.map (·.1)) wanted with
  | none => rfl
  | some to =>
    obtain ⟨t', order⟩ := to
    simp only
    split
    · unfold SetTable.relaid SetTable.laid at hr
      cases hl : SetTable.layClean (SetTable.sizeAbove wanted - 1) (es.map (·.1)) with
      | none => rw [hl] at hr; simp at hr
      | some owner =>
        rw [hl] at hr
        simp at hr
        rw [← hr.1]
    · rfl
end SetM
set_option linter.all false
set_option maxRecDepth 100000
namespace SetM
open PySem
theorem paired_perm {α β : Type} {F : α → β → Prop} {l l' : List β} (p : l'.Perm l) : ∀ {ks : List α}, Paired F ks l → ∃ ks', Paired F ks' l' ∧ ks'.Perm ks := by
  induction p with
  | nil => intro ks h; cases h; exact ⟨[], .nil, .nil⟩
  | cons x p ih =>
    intro ks h
    cases h with
    | cons r t =>
      obtain ⟨ks', h1, h2⟩ := ih t
      exact ⟨_ :: ks', .cons r h1, h2.cons _⟩
  | swap x y l =>
    intro ks h
    cases h with
    | cons r t =>
      cases t with
      | cons r' t' => exact ⟨_ :: _ :: _, .cons r' (.cons r t'), .swap _ _ _⟩
  | trans p1 p2 ih1 ih2 =>
    intro ks h
    obtain ⟨k1, h1, h2⟩ := ih2 h
    obtain ⟨k2, h3, h4⟩ := ih1 h1
    exact ⟨k2, h3, h4.trans h2⟩
theorem paired_mem {α β : Type} {F : α → β → Prop} : ∀ {ks : List α} {l : List β}, Paired F ks l → ∀ k ∈ ks, ∃ e ∈ l, F k e
  | _, _, .nil, k, h => by cases h
  | _, _, .cons r t, k, h => by
    rcases List.mem_cons.mp h with z | z
    · subst z; exact ⟨_, List.mem_cons_self, r⟩
    · obtain ⟨e, h1, h2⟩ := paired_mem t k z
      exact ⟨e, List.mem_cons_of_mem _ h1, h2⟩
theorem paired_mem' {α β : Type} {F : α → β → Prop} : ∀ {ks : List α} {l : List β}, Paired F ks l → ∀ e ∈ l, ∃ k ∈ ks, F k e
  | _, _, .nil, k, h => by cases h
  | _, _, .cons r t, k, h => by
    rcases List.mem_cons.mp h with z | z
    · subst z; exact ⟨_, List.mem_cons_self, r⟩
    · obtain ⟨e, h1, h2⟩ := paired_mem' t k z
      exact ⟨e, List.mem_cons_of_mem _ h1, h2⟩
section
variable {prog : Program} {w : World} {K : Type} [DecidableEq K] (knd : KeyKind prog w K)
/-- a set's object: the keys ks, in the order of its entries -/
structure SetO (o : Obj) (ks : List K) : Prop where
  ex : o.ExactSet
  dat : ∃ es ep t, o.data = .set es ep t ∧ ElemsOf knd es.toList ∧ Paired (fun k (e : Int × Value) => knd.is k e.2 = true) ks es.toList ∧ es.size < scanBound ∧ TabI t es.size ∧ t.led = !(w.params.followText "set-order")
  nd : ks.Nodup
def SetG (h : Heap) (a : Addr) (ks : List K) : Prop := ∃ o, h.get? a = some o ∧ SetO knd o ks
variable {knd} {A : Around} {E : Value → Shared → Prop} {s : Shared} {a : Addr}
theorem SetO.len {o : Obj} {ks : List K} (h : SetO knd o ks) : ks.length < scanBound := by
  obtain ⟨es, ep, t, _, _, p, b, _⟩ := h.dat
  rw [p.length, Array.length_toList]
  exact b
theorem store_back {o : Obj} {es es' : Array (Int × Value)} {ep : Nat} {t t' : SetTable} {ks' : List K} {h : Heap} (ho : h.get? a = some o) (hex : o.ExactSet) (hd : o.data = .set es ep t) (el : ElemsOf knd es'.toList)
    (pr : Paired (fun k (e : Int × Value) => knd.is k e.2 = true) ks' es'.toList) (hb : es'.size < scanBound) (ti : TabI t' es'.size) (hl : t'.led = !(w.params.followText "set-order")) (nd : ks'.Nodup) :
    (h.update a (Obj.putSet es' t')).get? a = some { o with data := .set es' (ep + 1) t' } ∧ SetO knd { o with data := .set es' (ep + 1) t' } ks' := by
  have mem : ∀ k', (decide (k' ∈ ks')) = true ↔ ∃ e ∈ es'.toList, knd.is k' e.2 = true := fun k' => by
    rw [decide_eq_true_eq]
    constructor
    · exact fun hk => paired_mem pr k' hk
    · rintro ⟨e, he, hq⟩
      obtain ⟨k2, h1, h2⟩ := paired_mem' pr e he
      rw [knd.inj e.2 k' k2 hq h2]
      exact h1
  obtain ⟨e1, o2, es2, ep2, t2, e2, ex2, d2, _⟩ := SetOf_store (knd := knd) ho hex hd el mem hb ti.fits
  rw [e1] at e2
  cases e2
  exact ⟨e1, ⟨ex2, ⟨es', ep + 1, t', rfl, el, pr, hb, ti, hl⟩, nd⟩⟩
theorem set_add {ks : List K} {k : K} {x : Value} {Q : Bool → Shared → Prop} (hkey : knd.is k x = true) (hsc : x.scannable = true) (hS : SetG knd s.heap a ks) (hroom : ks.length + 1 < scanBound)
    (h : ∀ h' ks', Heap.SameBut a s.heap h' → SetG knd h' a ks' → ks'.Perm (if k ∈ ks then ks else ks ++ [k]) → Q (!decide (k ∈ ks)) { s with heap := h' }) :
    wpAny (model prog w) A (setAddHashed a x (knd.hash k)) Q E s := by
  obtain ⟨o, ho, S⟩ := hS
  obtain ⟨es, ep, t, hd, hel, pr, hb, ti, hled⟩ := S.dat
  have hlen : ks.length = es.size := by rw [pr.length, Array.length_toList]
  unfold setAddHashed setAddHashedIn
  refine wpAny_holding (wpAny_bind (wpAny_setState_of ho hd ti.fits ?_))
  dsimp only
  rw [byScan_of hsc hb hel]
  simp only [↓reduceIte]
  unfold setAddByScan
  refine wpAny_bind (wpAny_bind (wpAny_rule (wpAny_bind (wpAny_setScan_of hkey ho hd ti.fits hel ?_))))
  cases hr : List.findIdx? (fun e => knd.is k e.2) es.toList with
  | some j =>
    dsimp only
    obtain ⟨hj, hpj, _⟩ := List.findIdx?_eq_some_iff_getElem.mp hr
    have hk : k ∈ ks := by
      obtain ⟨k2, h1, h2⟩ := paired_mem' pr _ (List.getElem_mem hj)
      rw [knd.inj _ k k2 hpj h2]
      exact h1
    have q := h s.heap ks (Heap.SameBut.refl a s.heap) ⟨o, ho, S⟩ (by rw [if_pos hk])
    rw [decide_eq_true hk] at q
    exact wpAny_pure (wpAny_pure q)
  | none =>
    dsimp only
    have hk : k ∉ ks := fun hm => by
      obtain ⟨e, he, hq⟩ := paired_mem pr k hm
      have z := List.findIdx?_eq_none_iff.mp hr e he
      rw [hq] at z
      cases z
    have gw : ∀ (b : Bool) {s₁ : Shared} {Q' : Unit → Shared → Prop}, Q' () s₁ → wpAny (model prog w) A (match b with | true => rule "set.scan.the-table-gave-way" | false => pure ()) Q' E s₁ :=
      fun b s₁ Q' hq => by cases b <;> first | exact wpAny_pure hq | exact wpAny_rule hq
    have perm0 := layNew_perm t es (knd.hash k) x
    have tab1 := tab_layNew (t := t) ti (knd.hash k) x
    have led1 := layNew_led (t := t) (es := es) (knd.hash k) x
    generalize hL : layNew t es (knd.hash k) x = L at perm0 tab1 led1 ⊢
    obtain ⟨es1, t1, wasDummy, gave⟩ := L
    dsimp only at perm0 tab1 led1 ⊢
    rw [Array.toList_push] at perm0
    have el1 : ElemsOf knd es1.toList := (hel.push hkey hsc).perm perm0
    have pr0 : Paired (fun k (e : Int × Value) => knd.is k e.2 = true) (ks ++ [k]) (es.toList ++ [(knd.hash k, x)]) := Paired.snoc pr hkey
    obtain ⟨ks1, pr1, pk1⟩ := paired_perm perm0 pr0
    have nd1 : ks1.Nodup := pk1.nodup_iff.mpr (List.nodup_append.mpr ⟨S.nd, List.nodup_cons.mpr ⟨by simp, List.nodup_nil⟩, fun u hu v hv => by
      rw [List.mem_singleton.mp hv]; exact fun z => hk (z ▸ hu)⟩)
    have sz1 : es1.size = es.size + 1 := by
      have := perm0.length_eq
      rw [List.length_append, Array.length_toList, Array.length_toList] at this
      simpa using this
    have hb1 : es1.size < scanBound := by omega
    refine wpAny_bind (gw _ ?_)
    -- the store, and perhaps the table laid anew
    have tailOk : ∀ t2 : SetTable, TabI t2 es1.size → t2.led = t.led → wpAny (model prog w) A (do
        storeSet a es1 t2
        if (!wasDummy && t2.tooFull) = true then do
            (match (relayAll t2 es1 (SetTable.grown es1.size)).2.2 with | true => rule "set.scan.the-table-gave-way" | false => pure ())
            storeSet a (relayAll t2 es1 (SetTable.grown es1.size)).1 (relayAll t2 es1 (SetTable.grown es1.size)).2.1
            pure (some true)
          else pure (some true)) (fun b s' => b = some true ∧ ∃ h' ks', s' = { s with heap := h' } ∧ Heap.SameBut a s.heap h' ∧ SetG knd h' a ks' ∧ ks'.Perm (ks ++ [k])) E s := by
      intro t2 ti2 hl2
      refine wpAny_bind (wpAny_storeSet_of ho hd ?_ (fits_of_scanBound hb1))
      obtain ⟨g1, S1⟩ := store_back (knd := knd) ho S.ex hd el1 pr1 hb1 ti2 (hl2.trans hled) nd1
      have sb1 := Heap.SameBut.update s.heap a (Obj.putSet es1 t2)
      split
      · have hp := relayAll_perm t2 es1 (SetTable.grown es1.size)
        have ti3 := tab_relayAll (t := t2) (es := es1) (SetTable.grown es1.size)
        have led3 := relayAll_led (t := t2) (es := es1) (SetTable.grown es1.size)
        generalize relayAll t2 es1 (SetTable.grown es1.size) = Rl at hp ti3 led3 ⊢
        obtain ⟨es2, t3, gave2⟩ := Rl
        dsimp only at hp ti3 led3 ⊢
        obtain ⟨ks2, pr2, pk2⟩ := paired_perm hp pr1
        have sz2 : es2.size = es1.size := by
          have := hp.length_eq
          rwa [Array.length_toList, Array.length_toList] at this
        have hb2 : es2.size < scanBound := by omega
        refine wpAny_bind (gw _ ?_)
        refine wpAny_bind (wpAny_storeSet_of g1 rfl ?_ (fits_of_scanBound hb2))
        obtain ⟨g2, S2⟩ := store_back (knd := knd) g1 S1.ex rfl (el1.perm hp) pr2 hb2 ti3 (led3.trans (hl2.trans hled)) (pk2.nodup_iff.mpr nd1)
        exact wpAny_pure ⟨rfl, _, ks2, rfl, sb1.trans (Heap.SameBut.update _ a _), ⟨_, g2, S2⟩, pk2.trans pk1⟩
      · exact wpAny_pure ⟨rfl, _, ks1, rfl, sb1, ⟨_, g1, S1⟩, pk1⟩
    have fin : ∀ b s', (b = some true ∧ ∃ h' ks', s' = { s with heap := h' } ∧ Heap.SameBut a s.heap h' ∧ SetG knd h' a ks' ∧ ks'.Perm (ks ++ [k])) →
        wpAny (model prog w) A (match b with | some added => pure added | none => setAddHashedIn a x (knd.hash k) 99999) Q E s' := by
      rintro b s' ⟨rfl, h', ks', rfl, sb, g, pk⟩
      have q := h h' ks' sb g (by rw [if_neg hk]; exact pk)
      rw [decide_eq_false hk] at q
      exact wpAny_pure q
    split
    · refine wpAny_bind ?_
      rw [hashByValue_scannable 8 hsc]
      refine wpAny_pure ?_
      refine wpAny_mono (tailOk _ ?_ ?_) fin fun _ _ z => z
      · split
        · exact tab1
        · exact ⟨tab1.size, tab1.dum, tab1.ris, tab1.room⟩
      · split
        · exact led1
        · exact led1
    · refine wpAny_bind (wpAny_pure ?_)
      simp only [↓reduceIte]
      exact wpAny_mono (tailOk _ tab1 led1) fin fun _ _ z => z
end
end SetM
set_option linter.all false
set_option maxRecDepth 100000
namespace SetM
open PySem PyProof.Rows
section
variable {prog : Program} {w : World} {K : Type} [DecidableEq K] {knd : KeyKind prog w K}
theorem SetG.at' {h h' : Heap} {a : Addr} {ks : List K} (x : SetG knd h a ks) (e : ∀ o, h.get? a = some o → h'.get? a = some o) : SetG knd h' a ks := let ⟨o, ho, S⟩ := x; ⟨o, e o ho, S⟩
/-- the keys val 0, .., val (i - 1), each once -/
structure Upto (val : Nat → K) (i : Nat) (ks : List K) : Prop where
  mem : ∀ x, x ∈ ks ↔ ∃ j, j < i ∧ val j = x
  len : ks.length ≤ i
theorem Upto.zero (val : Nat → K) : Upto val 0 [] := ⟨fun x => ⟨fun z => absurd z List.not_mem_nil, fun ⟨j, z, _⟩ => absurd z (Nat.not_lt_zero _)⟩, Nat.le_refl _⟩
theorem Upto.next {val : Nat → K} {i : Nat} {ks ks' : List K} (u : Upto val i ks) (pk : ks'.Perm (if val i ∈ ks then ks else ks ++ [val i])) : Upto val (i + 1) ks' := by
  refine ⟨fun x => ?_, ?_⟩
  · rw [pk.mem_iff]
    constructor
    · intro hx
      have hx' : x ∈ ks ∨ x = val i := by
        split at hx
        · exact .inl hx
        · rcases List.mem_append.mp hx with hx | hx
          · exact .inl hx
          · exact .inr (List.mem_singleton.mp hx)
      rcases hx' with hx' | hx'
      · obtain ⟨j, h1, h2⟩ := (u.mem x).mp hx'
        exact ⟨j, by omega, h2⟩
      · exact ⟨i, by omega, hx'.symm⟩
    · rintro ⟨j, h1, h2⟩
      by_cases hx : x ∈ ks
      · split
        · exact hx
        · exact List.mem_append_left _ hx
      · have e : j = i := by
          rcases Nat.lt_or_ge j i with z | z
          · exact absurd ((u.mem x).mpr ⟨j, z, h2⟩) hx
          · omega
        subst e
        rw [h2, if_neg hx]
        exact List.mem_append_right _ (List.mem_singleton_self _)
  · rw [pk.length_eq]
    have := u.len
    split
    · omega
    · simp only [List.length_append, List.length_singleton]
      omega
variable {A : Around} {R : Result → Shared → Prop} {I : Addr} {fp wr : List Addr} {G : Array GenState → Array GenState → Prop} {n : Nat} {P : Nat → Value → Prop} {St : Nat → Shared → Prop}
/-- the loop that fills a set from what is walked -/
theorem fill_loop (W : WalksS prog w A.in1 I fp wr G n P St) {a : Addr} (na : a ∉ fp) {val : Nat → K} (hval : ∀ i v, P i v → knd.is (val i) v = true ∧ v.scannable = true) (hb : n + 1 < scanBound) (i : Nat) (s : Shared) (ks : List K)
    (hi : i ≤ n) (st : St i s) (hS : SetG knd s.heap a ks) (u : Upto val i ks) (fin : ∀ s' ks', Moved (a :: wr) G s s' → SetG knd s'.heap a ks' → Upto val n ks' → R (.ok (.ret .none)) s') :
    codeAny (model prog w) A (.builtin "set.update.loop" ⟨[.ref a, .ref I], []⟩) R s := by
  have naw : a ∉ wr := fun z => na (W.sub _ z)
  have more : ∀ b ∈ wr, b ∈ a :: wr := fun b z => List.mem_cons_of_mem _ z
  refine codeAny_builtin PyProof.Rows.F.entry_set_update_loop ?_
  rw [Around.under_plainId PyProof.Rows.F.plain_set_update_loop]
  refine wpAny_bind (m := pyNext (.ref I)) ?_
  by_cases hlt : i < n
  · refine W.item i s _ _ hlt st fun v s1 hP st1 mv => ?_
    obtain ⟨hv, hsc⟩ := hval i v hP
    have hS1 : SetG knd s1.heap a ks := hS.at' fun o e => mv.heap a o naw e
    refine wpAny_bind (m := holding [v] (setAdd a v)) (wpAny_holding ?_)
    unfold setAdd
    refine wpAny_holding (wpAny_bind (knd.pyHash (k := val i) hv ?_))
    have := u.len
    refine set_add (knd := knd) (s := { s1 with toks := s1.toks + 1 }) hv hsc hS1 (by omega) fun h2 ks2 sb hS2 pk => wpAny_pure ⟨plainId_quiet PyProof.Rows.F.plain_set_update_loop _, ?_⟩
    refine fill_loop W na hval hb (i + 1) { s1 with heap := h2, toks := s1.toks + 1 } ks2 hlt (W.frame _ s1 _ _ st1 (Nat.le_succ _) fun b hb' o e => ?_) hS2 (u.next pk) fun s3 ks3 mv3 hS3 u3 => ?_
    · rw [sb.2 b fun z => na (z ▸ hb')]
      exact e
    · refine fin s3 ks3 (Moved.trans W.gtrans ((mv.mono more).then_heap (Nat.le_succ _) fun b o hb' e => ?_) mv3) hS3 u3
      rw [sb.2 b fun z => hb' (z ▸ List.mem_cons_self)]
      exact e
  · have e : i = n := by omega
    subst e
    exact W.done s _ _ st fun s1 mv => wpAny_pure (fin s1 ks (mv.mono more) (hS.at' fun o e => mv.heap a o naw e) u)
termination_by n - i
end
section
variable {prog : Program} {w : World} {A : Around} {E : Value → Shared → Prop} {s : Shared}
/-- a class of the interpreter is called: its __new__, its __init__ -/
theorem call_class {T newId initId : String} {args : List Value} {Q : Value → Shared → Prop} (ft : TypeCalled T newId initId) (hct : checkTypeCall T ⟨args, []⟩ = pure ())
    (h : codeAny (model prog w) A.in1 (.call (.builtin newId) ⟨.type T :: args, []⟩) (wants (fun obj s1 => s1.TypeIs obj T ∧ codeAny (model prog w) A.in1 (.call (.builtin initId) ⟨obj :: args, []⟩) (wants (fun r s2 => r = .none ∧ Q obj s2) E) s1) E) s) :
    wpAny (model prog w) A (call (.type T) args) Q E s := by
  have q1 := ft.notType
  have q2 := ft.canCreate
  have q3 := ft.made
  have q4 := ft.sub
  obtain ⟨c, tl, q5⟩ := ft.mro
  apply wpAny_call
  apply codeAny_of_tree
  change wpAny (model prog w) _ (callAny (Value.type T) ⟨args, []⟩) _ _ s
  refine wpAny_pure (And.intro (Code.quiet_builtin _ (by decide +kernel)) (codeAny_builtin PySem.F.entry_type_call ?_))
  rw [Around.under_plain (weight_type_call_type T args []) (units_type_call_type T args [])]
  repeat (any_goals (first | assumption | wp_step))
  refine codeAny_mono h fun r s1 hr => ?_
  rcases r with e | fl
  · exact hr
  · cases fl with
    | ret obj =>
      obtain ⟨hT, hI⟩ := hr
      have q6 := ft.init.lookup
      have q7 := ft.init.bind obj
      repeat (any_goals (first | assumption | wp_step))
      refine codeAny_mono hI fun r2 s2 hr2 => ?_
      rcases r2 with e2 | fl2
      · exact hr2
      · cases fl2 with
        | ret r3 =>
          obtain ⟨rfl, q⟩ := hr2
          repeat (any_goals (first | assumption | wp_step))
        | _ => exact hr2.elim
    | _ => exact hr.elim
/-- a set as it is made -/
abbrev setObj (b : Bool) : Obj := { cls := .type "set", dict := none, data := .set #[] 0 (.fresh 0 0 b) }
theorem new_set (x : Value) {Q1 : Value → Shared → Prop} (h : Q1 (.ref s.heap.objs.size) { s with heap := s.heap.push (setObj (!(w.params.followText "set-order"))) }) :
    codeAny (model prog w) A (.call (.builtin "set.__new__") ⟨[.type "set", x], []⟩) (wants Q1 E) s := by
  have q := sub_set_self
  refine codeAny_call_builtin PySem.F.plain_set_new PySem.F.entry_set_new (wpAny_of_eq (PySem.F.newCall_set_1 x) ?_)
  unfold Builtin.«set.__new__» Builtin.Frozenset.newClass
  obtain ⟨hp, gs, dr, tk, so⟩ := s
  dsimp only
  wp_walk
  refine wpAny_askSetting (wpAny_pure ?_)
  dsimp only
  simp only [newObj]
  exact wpAny_bind (wpAny_alloc (wpAny_pure (wpAny_pure h)))
variable {K : Type} [DecidableEq K] {knd : KeyKind prog w K}
set_option maxHeartbeats 4000000 in
/-- set(xs) of a list of keys -/
theorem call_set {l : Addr} {xs : Array Value} {val : Nat → K} {Q : Value → Shared → Prop} (hh : A.handled = none) (hl : s.heap.IsList l xs) (hx : ∀ i v, xs[i]? = some v → knd.is (val i) v = true ∧ v.scannable = true) (hb : xs.size + 1 < scanBound)
    (fin : ∀ (h1 : Heap) (tk : Nat) (ks : List K), SetG knd h1 s.heap.objs.size ks → Upto val xs.size ks → (∀ b o, s.heap.get? b = some o → h1.get? b = some o) → Q (.ref s.heap.objs.size) { s with heap := h1, toks := tk }) :
    wpAny (model prog w) A (call (.type "set") [.ref l]) Q E s := by
  refine call_class PySem.F.called_set (PySem.F.typeCall_set_1 (.ref l)) (new_set (.ref l) ?_)
  generalize hb0 : (!(w.params.followText "set-order")) = b0
  have at0 : (s.heap.push (setObj b0)).get? s.heap.objs.size = some (setObj b0) := Heap.get?_push_size _ rfl
  have ty0 : Shared.TypeIs { s with heap := s.heap.push (setObj b0) } (.ref s.heap.objs.size) "set" := ⟨_, at0, rfl⟩
  refine ⟨ty0, codeAny_call_builtin PySem.F.called_set.init.plain PySem.F.entry_set_init (check_set_init_1 ty0 ?_)⟩
  obtain ⟨⟨c0, d0, dt0, sl0⟩, e0, hc0, n0, hd0⟩ := hl
  simp only at hc0 hd0
  subst hc0 hd0
  have e1 : (s.heap.push (setObj b0)).get? l = some ⟨.type "list", d0, .seq xs n0, sl0⟩ := Heap.get?_push_of_some _ e0
  have li : (s.heap.push (setObj b0)).IsList l xs := ⟨_, e1, rfl, n0, rfl⟩
  have u1 := PySem.F.sub_list_set
  have u2 := PySem.F.sub_list_frozenset
  have u3 : (Value.type "list" == Value.type "dict") = false := by decide
  unfold Builtin.«set.__init__» noKeywords Builtin.Frozenset.updateFrom
  generalize hit : pyIter = it
  wp_walk
  subst hit
  have lt0 : l < s.heap.objs.size := Heap.lt_size e0
  have sz : (s.heap.push (setObj b0)).objs.size = s.heap.objs.size + 1 := Heap.size_push _ _
  refine wpAny_pyIter_list li (wpAny_bind (wpAny_runValue ?_))
  refine fill_loop (knd := knd) (val := val) ((Walks.list (by simp [hh]) _ l (by rw [sz]; exact Nat.ne_of_lt (Nat.lt_succ_of_lt lt0)) xs).toS) (fun z => (List.mem_cons.mp z).elim (fun z => absurd z (Nat.ne_of_lt (by rw [sz]; exact Nat.lt_succ_self _))) fun z => absurd (List.mem_singleton.mp z) (Nat.ne_of_gt lt0)) hx hb 0 _ [] (Nat.zero_le _) ⟨⟨_, Heap.get?_push_size _ rfl, rfl, rfl⟩, li.push _⟩
    ⟨_, Heap.get?_push_of_some _ at0, ⟨⟨rfl, rfl, rfl⟩, ⟨#[], 0, _, rfl, fun e he => by simp at he, .nil, by unfold scanBound; decide, tab_fresh _ _ _, hb0.symm⟩, List.nodup_nil⟩⟩ (Upto.zero val) ?_
  rintro ⟨h2, g2, d2, tk2, o2⟩ ks mv S2 u
  have x1 : g2 = s.gens := mv.gens
  have x2 : d2 = s.drawn := mv.drawn
  have x3 : o2 = s.os := mv.os
  subst x1 x2 x3
  refine wpAny_pure (wpAny_pure ⟨rfl, fin h2 tk2 ks S2 u fun b o e => mv.heap b o ?_ (Heap.get?_push_of_some _ (Heap.get?_push_of_some _ e))⟩)
  have lb := Heap.lt_size e
  intro z
  rcases List.mem_cons.mp z with z | z
  · exact absurd z (Nat.ne_of_lt lb)
  · have z := List.mem_singleton.mp z
    rw [sz] at z
    exact absurd z (Nat.ne_of_lt (Nat.lt_succ_of_lt lb))
end
end SetM
set_option linter.all false
set_option maxRecDepth 100000
namespace SetM
open PySem PyProof.Rows
/-! facts of the set's iterator -/
theorem si_next : Slot "set_iterator" "__next__" "set_iterator.__next__" :=
  Slot.of (owner := "set_iterator") (n := "__next__") (by rw [typeLookup_type, builtinLookup_eq_fast]; kernel_rfl) (by decide +kernel) (by decide +kernel) (by decide +kernel) (.inl (by decide +kernel)) (by rw [isSubtype_type]; kernel_rfl)
theorem si_entry : entryFor table "set_iterator.__next__" = some Builtin.«set_iterator.__next__» := entryFor_of_tree (by kernel_rfl)
theorem si_args (a : Value) : argsOk "set_iterator.__next__" ⟨[a], []⟩ := by unfold argsOk; kernel_rfl
theorem set_iter_entry : entryFor table "set.__iter__" = some Builtin.«frozenset.__iter__» := entryFor_alias (id' := "frozenset.__iter__") (by kernel_rfl) rfl (by decide +kernel) (by kernel_rfl)
end SetM
set_option linter.all false
set_option maxRecDepth 100000
namespace SetM
open PySem PyProof.Rows
theorem erase_perm {α : Type} : ∀ (l : List α) (i : Nat) (h : i < l.length), (l[i] :: l.eraseIdx i).Perm l
  | x :: l, 0, h => .refl _
  | x :: l, i + 1, h => by
    have ih := erase_perm l i (by simpa using h)
    simp only [List.getElem_cons_succ, List.eraseIdx_cons_succ]
    exact (List.Perm.swap _ _ _).trans (ih.cons x)
theorem drawOrder_ok {prog : Program} {w : World} {A : Around} {E : Value → Shared → Prop} {α : Type} : ∀ (n : Nat) (xs : List α) (s : Shared) (Q : List α → Shared → Prop), xs.length = n → (∀ ys d, ys.Perm xs → Q ys { s with drawn := d }) → wpAny (model prog w) A (drawOrder n xs) Q E s
  | 0, xs, s, Q, hn, h => by
    have e : xs = [] := List.length_eq_zero_iff.mp hn
    subst e
    have q := h [] s.drawn .nil
    exact wpAny_pure q
  | n + 1, xs, s, Q, hn, h => by
    cases xs with
    | nil => simp at hn
    | cons x0 xr =>
      generalize hx : x0 :: xr = xs at hn h ⊢
      have e : drawOrder (n + 1) xs = (choose .order xs.length >>= fun i => match xs[i]? with | some x => (drawOrder n (xs.eraseIdx i) >>= fun r => pure (x :: r)) | none => unsupported "internal:drawOrder") := by
        subst hx; rfl
      rw [e]
      refine wpAny_bind ?_
      intro Γ p hΓ
      show Sem.wp _ _ (.choose _ _ _) _ _ _ _
      rw [Sem.wp_choose]
      refine ⟨by omega, ?_⟩
      have lt := Nat.mod_lt ((model prog w).w.draws .order (s.drawn.get .order)) (show xs.length > 0 by omega)
      generalize (model prog w).w.draws .order (s.drawn.get .order) % xs.length = i at lt ⊢
      rw [Sem.wp_pure]
      have ex : xs[i]? = some xs[i] := List.getElem?_eq_getElem lt
      dsimp only
      rw [ex]
      refine wpAny_bind (drawOrder_ok n (xs.eraseIdx i) _ _ (by rw [List.length_eraseIdx_of_lt lt]; omega) fun ys d hp => wpAny_pure (h _ _ ((hp.cons _).trans (erase_perm xs i lt))))
/-- the iterator's first field at turn i, and what it yields: vs -/
inductive Fst (w : World) (a : Addr) (es : Array (Int × Value)) (ep : Nat) (t : SetTable) (h : Heap) : Nat → Value → List Value → Prop where
  | byText {i : Nat} {k : Int} {tk : Tok} : w.params.followText "set-order" = true → Fst w a es ep t h i (.int k tk) ((pickOrder (w.params.setOrder a ep) es).toList.map (·.2))
  | drawn {i : Nat} {T : Addr} {c : Nat} {ps : List Nat} : ps.Perm (List.range es.size) → h.get? T = some { cls := .type "tuple", data := .seq (ps.map fun (p : Nat) => rawInt p).toArray c } →
      Fst w a es ep t h i (.ref T) (ps.map fun p => (es.getD p (0, .none)).2)
  | plain {i : Nat} {tk : Tok} : w.params.followText "set-order" = false → (!t.plain && es.size > 1) = false → t.led = true → Fst w a es ep t h i (.int (if i = 0 then 0 else ((t.place.getD (i - 1) 0 + 1 : Nat) : Int)) tk) (es.toList.map (·.2))
abbrev itObj (first : Value) (i : Nat) (a : Addr) (n ep : Nat) : Obj := { cls := .type "set_iterator", data := .fields #[first, rawInt i, .ref a, rawInt n, rawInt ep] }
section
variable {prog : Program} {w : World} {A : Around} {E : Value → Shared → Prop} {s : Shared} {a : Addr} {o : Obj} {es : Array (Int × Value)} {ep : Nat} {t : SetTable}
/-- iter(set) -/
theorem iter_set {Q : Value → Shared → Prop} (ho : s.heap.get? a = some o) (hex : o.ExactSet) (hd : o.data = .set es ep t) (ti : TabI t es.size) (hl : t.led = !(w.params.followText "set-order")) (hb : es.size < scanBound)
    (fin : ∀ I first h1 d vs, (∀ b ob, s.heap.get? b = some ob → h1.get? b = some ob) → s.heap.objs.size ≤ I → h1.get? I = some (itObj first 0 a es.size ep) → (∀ T, first = .ref T → T ≠ I ∧ s.heap.objs.size ≤ T) → Fst w a es ep t h1 0 first vs → Q (.ref I) { s with heap := h1, drawn := d }) :
    wpAny (model prog w) A (pyIter (.ref a)) Q E s := by
  have hT : s.TypeIs (.ref a) "set" := ⟨o, ho, hex.1⟩
  refine wpAny_pyIter_slot hT PySem.F.slot_set_iter (wpAny_call_entry PySem.F.slot_set_iter hT set_iter_entry ?_ (PySem.F.args_set_iter_1 _))
  unfold Builtin.«frozenset.__iter__» Builtin.Frozenset.slot0 slotArgs
  simp only [List.isEmpty_nil, Bool.not_true, Bool.false_eq_true, ↓reduceIte, bind_assoc, List.length_nil, bne_self_eq_false]
  unfold Builtin.Frozenset.addrOf Builtin.Frozenset.sizeOf
  refine wpAny_bind (wpAny_pure ?_)
  dsimp only
  refine wpAny_bind (wpAny_pure ?_)
  refine wpAny_bind (wpAny_bind (wpAny_setEntries_of ho hd ti.fits (wpAny_pure ?_)))
  unfold setDrawn setsByText
  refine wpAny_bind (wpAny_bind (wpAny_setState_of ho hd ti.fits ?_))
  dsimp only
  refine wpAny_bind (wpAny_bind (wpAny_askSetting (wpAny_pure (wpAny_pure ?_))))
  dsimp only
  have eEp : ∀ (s1 : Shared) {Q1 : Nat → Shared → Prop}, s1.heap.get? a = some o → Q1 ep s1 → wpAny (model prog w) A.in1 (setEpoch a) Q1 E s1 := fun s1 Q1 e q => wpAny_setEpoch_of e hd ti.fits q
  split
  · rename_i hdr
    refine wpAny_bind (drawOrder_ok _ _ _ _ (List.length_range) fun ps d hp => ?_)
    refine wpAny_bind (wpAny_newTuple ?_ (by rw [List.length_map, hp.length_eq, List.length_range]; exact fits_of_scanBound hb))
    refine wpAny_bind (eEp _ (Heap.get?_push_of_some _ ho) ?_)
    refine wpAny_bind (wpAny_newObj_type (wpAny_pure ⟨_, rfl, "set_iterator", _, ⟨_, Heap.get?_push_size _ rfl, rfl⟩, si_next.lookup, ?_⟩))
    refine fin _ (.ref s.heap.objs.size) _ d _ (fun b ob e => Heap.get?_push_of_some _ (Heap.get?_push_of_some _ e)) ?_ (Heap.get?_push_size _ rfl) ?_ (.drawn hp (Heap.get?_push_of_some _ (Heap.get?_push_size _ rfl)))
    · rw [Heap.size_push]; exact Nat.le_succ _
    · rintro T e
      cases e
      exact ⟨by rw [Heap.size_push]; exact Nat.ne_of_lt (Nat.lt_succ_self _), Nat.le_refl _⟩
  · rename_i hdr
    refine wpAny_bind (wpAny_pure (wpAny_bind (eEp _ ho ?_)))
    refine wpAny_bind (wpAny_newObj_type (wpAny_pure ⟨_, rfl, "set_iterator", _, ⟨_, Heap.get?_push_size _ rfl, rfl⟩, si_next.lookup, ?_⟩))
    have old : ∀ b ob, s.heap.get? b = some ob → (s.heap.push (itObj (rawInt 0) 0 a es.size ep)).get? b = some ob := fun b ob e => Heap.get?_push_of_some _ e
    cases hbt : w.params.followText "set-order" with
    | true => exact fin s.heap.objs.size (rawInt 0) _ s.drawn _ old (Nat.le_refl _) (Heap.get?_push_size _ rfl) (fun T e => by cases e) (.byText hbt)
    | false =>
      have h1 : (!t.plain && decide (es.size > 1)) = false := by
        have h2 : ¬ (!false && (!t.plain && decide (es.size > 1))) = true := by rw [← hbt]; exact hdr
        simpa using h2
      exact fin s.heap.objs.size (rawInt 0) _ s.drawn _ old (Nat.le_refl _) (Heap.get?_push_size _ rfl) (fun T e => by cases e) (.plain hbt h1 (by rw [hl, hbt]; rfl))
end
end SetM
set_option linter.all false
set_option maxRecDepth 100000
namespace SetM
open PySem PyProof.Rows
theorem pick_go {α : Type} (nx : Nat → Nat) : ∀ (fuel k : Nat) (left : List α) (out : Array α), left.length ≤ fuel → (pickOrder.go nx fuel k left out).toList.Perm (out.toList ++ left)
  | 0, k, left, out, h => by
    have e : left = [] := List.length_eq_zero_iff.mp (by omega)
    subst e
    simp [pickOrder.go]
  | fuel + 1, k, left, out, h => by
    simp only [pickOrder.go]
    cases left with
    | nil => simp
    | cons x0 xr =>
      generalize hx : x0 :: xr = l at h ⊢
      have lt : nx k % l.length < l.length := Nat.mod_lt _ (by rw [← hx]; simp)
      rw [List.getElem?_eq_getElem lt]
      dsimp only
      refine (pick_go nx fuel (k + 1) _ _ (by rw [List.length_eraseIdx_of_lt lt]; omega)).trans ?_
      rw [Array.toList_push, List.append_assoc]
      exact List.Perm.append_left _ (erase_perm l _ lt)
theorem pick_perm {α : Type} (nx : Nat → Nat) (xs : Array α) : (pickOrder nx xs).toList.Perm xs.toList := by
  have q := pick_go nx xs.size 0 xs.toList #[] (by simp)
  exact q
theorem range_items (es : Array (Int × Value)) : (List.range es.size).map (fun p => (es.getD p (0, .none)).2) = es.toList.map (·.2) := by
  apply List.ext_getElem
  · simp
  · intro i h1 h2
    have h3 : i < es.size := by simpa using h1
    simp [h3]
section
variable {w : World} {a : Addr} {es : Array (Int × Value)} {ep : Nat} {t : SetTable} {h : Heap} {i : Nat} {first : Value} {vs : List Value}
theorem Fst.perm (F : Fst w a es ep t h i first vs) : vs.Perm (es.toList.map (·.2)) := by
  cases F with
  | byText _ => exact (pick_perm _ _).map _
  | drawn hp _ => rw [← range_items]; exact hp.map _
  | plain _ _ _ => exact .refl _
end
section
variable {prog : Program} {w : World} {A : Around} {E : Value → Shared → Prop} {s : Shared} {a I : Addr} {o : Obj} {es : Array (Int × Value)} {ep : Nat} {t : SetTable} {i : Nat} {first : Value} {vs : List Value}
theorem below_at {xs : Array Nat} (hr : Ris xs) {i : Nat} (hi : i ≤ xs.size) : SetTable.below xs (if i = 0 then (0 : Int) else ((xs.getD (i - 1) 0 + 1 : Nat) : Int)).toNat = i := by
  by_cases h : i = 0
  · subst h
    rw [if_pos rfl]
    exact below_zero hr
  · rw [if_neg h, Int.toNat_natCast, getD_in (by omega), below_next hr (by omega)]
    omega
theorem it_put {h : Heap} {n : Nat} {x0 x1 x2 x3 x4 : Value} (k : Nat) (v : Value) (hI : h.get? I = some { cls := .type "set_iterator", data := .fields #[x0, x1, x2, x3, x4] }) :
    (h.update I (Obj.mapFields (·.setIfInBounds k v))).get? I = some { cls := .type "set_iterator", data := .fields (#[x0, x1, x2, x3, x4].setIfInBounds k v) } := by
  rw [Heap.get?_update_self _ hI rfl]
  rfl
theorem it_else {h : Heap} {f : Obj → Obj} {b : Addr} {ob : Obj} (hb : b ≠ I) (e : h.get? b = some ob) : (h.update I f).get? b = some ob := (Heap.get?_update_other _ _ (Ne.symm hb)).trans e
theorem Fst.heap {h h1 : Heap} (F : Fst w a es ep t h i first vs) (k : ∀ T, first = .ref T → ∀ ob, h.get? T = some ob → h1.get? T = some ob) : Fst w a es ep t h1 i first vs := by
  cases F with
  | byText hb => exact .byText hb
  | drawn hp e => exact .drawn hp (k _ rfl _ e)
  | plain hb hp hl => exact .plain hb hp hl
theorem next_item {v : Value} {Q : Option Value → Shared → Prop} (ho : s.heap.get? a = some o) (hex : o.ExactSet) (hd : o.data = .set es ep t) (ti : TabI t es.size) (hI : s.heap.get? I = some (itObj first i a es.size ep)) (hne : a ≠ I) (hT : ∀ T, first = .ref T → T ≠ I)
    (F : Fst w a es ep t s.heap i first vs) (hv : vs[i]? = some v)
    (fin : ∀ h1 first', (∀ b ob, b ≠ I → s.heap.get? b = some ob → h1.get? b = some ob) → h1.get? I = some (itObj first' (i + 1) a es.size ep) → (∀ T, first' = .ref T → first = .ref T) → Fst w a es ep t h1 (i + 1) first' vs → Q (some v) { s with heap := h1 }) :
    wpAny (model prog w) A (pyNext (.ref I)) Q E s := by
  have hTy : s.TypeIs (.ref I) "set_iterator" := ⟨_, hI, rfl⟩
  unfold pyNext
  refine wpAny_bind (wpAny_attempt (wpAny_callSpecial?_slot (name := Str.ofString "__next__") hTy si_next (wpAny_call_entry si_next hTy si_entry ?_ (si_args _))))
  unfold Builtin.«set_iterator.__next__» slotArgs
  simp only [List.isEmpty_nil, Bool.not_true, Bool.false_eq_true, ↓reduceIte, bind_assoc, List.length_nil, bne_self_eq_false]
  refine wpAny_bind (wpAny_pure ?_)
  dsimp only
  refine wpAny_bind (wpAny_fieldsOf hI rfl ?_)
  dsimp only [rawInt]
  refine wpAny_bind (wpAny_setEntries_of ho hd ti.fits ?_)
  rw [if_neg (by simp)]
  have two : ∀ (nx : Nat) {Q1 : Fin → Shared → Prop}, (∀ h1, (∀ b ob, b ≠ I → s.heap.get? b = some ob → h1.get? b = some ob) → h1.get? I = some (itObj (.int nx 0) (i + 1) a es.size ep) → Q1 (.done (.ret v)) { s with heap := h1 }) →
      wpAny (model prog w) A.in1 (do setField (.ref I) 0 (.int nx 0); setField (.ref I) 1 (.int (i + 1) 0); ret v) Q1 (fun e s' => wpAny (model prog w) A (do let b ← isInstance e (.type "StopIteration"); if b = true then pure none else throw e) Q E s') s := by
    intro nx Q1 q
    refine wpAny_bind (wpAny_setField hI rfl (by simp) ?_)
    have g1 := it_put (n := es.size) 0 (.int nx 0) hI
    refine wpAny_bind (wpAny_setField g1 rfl (by simp) ?_)
    refine wpAny_pure (q _ (fun b ob hb e => it_else hb (it_else hb e)) ?_)
    have g2 := it_put (n := es.size) 1 (.int ((i : Int) + 1) 0) g1
    exact g2
  cases F with
  | byText hb =>
    dsimp only
    unfold setNext setsByText
    refine wpAny_bind (wpAny_bind (wpAny_setState_of ho hd ti.fits ?_))
    dsimp only
    refine wpAny_bind (wpAny_bind (wpAny_askSetting (wpAny_pure ?_)))
    dsimp only
    rw [show (model prog w).w.params.followText "set-order" = true from hb]
    simp only [↓reduceIte, Int.toNat_natCast, bne_self_eq_false, Bool.false_eq_true]
    unfold setWalk setsByText
    refine wpAny_bind (wpAny_bind (wpAny_setState_of ho hd ti.fits ?_))
    dsimp only
    refine wpAny_bind (wpAny_bind (wpAny_askSetting (wpAny_pure ?_)))
    dsimp only
    rw [show (model prog w).w.params.followText "set-order" = true from hb]
    simp only [↓reduceIte]
    refine wpAny_bind (wpAny_askSetting (wpAny_pure ?_))
    dsimp only
    rw [List.getElem?_map, Array.getElem?_toList] at hv
    have hv' : (pickOrder ((model prog w).w.params.setOrder a ep) es)[i]?.map (·.2) = some v := hv
    cases hq : (pickOrder ((model prog w).w.params.setOrder a ep) es)[i]? with
    | none => rw [hq] at hv'; cases hv'
    | some e =>
      rw [hq] at hv'
      cases hv'
      refine wpAny_pure ?_
      dsimp only [Option.map_some]
      exact two _ fun h1 k1 g1 => ⟨_, rfl, wpAny_pure (fin h1 _ k1 g1 (fun T z => by cases z) (.byText hb))⟩
  | @drawn T c ps hp hT2 =>
    dsimp only
    refine wpAny_bind (wpAny_seqItems hT2 rfl ?_)
    dsimp only
    rw [List.getElem?_map] at hv
    cases hq : ps[i]? with
    | none => rw [hq] at hv; cases hv
    | some p =>
      rw [hq] at hv
      cases hv
      have hlt : p < es.size := List.mem_range.mp (hp.mem_iff.mp (List.mem_of_getElem? hq))
      have e1 : (List.map (fun (p : Nat) => rawInt p) ps).toArray[((i : Int)).toNat]? = some (.int (p : Int) 0) := by
        simp only [Int.toNat_natCast, List.getElem?_toArray, List.getElem?_map, hq]
        rfl
      rw [e1]
      dsimp only
      unfold setNextDrawn
      refine wpAny_bind (wpAny_bind (wpAny_setState_of ho hd ti.fits ?_))
      dsimp only
      simp only [Int.toNat_natCast, bne_self_eq_false, Bool.false_eq_true, ↓reduceIte, Array.getElem?_eq_getElem hlt]
      refine wpAny_pure ?_
      refine wpAny_bind (wpAny_setField hI rfl (by simp) ?_)
      have g1 := it_put (n := es.size) 1 (.int ((i : Int) + 1) 0) hI
      have e2 : (es.getD p (0, Value.none)).2 = es[p].2 := by simp [hlt]
      refine wpAny_pure ⟨_, rfl, wpAny_pure ?_⟩
      have q := fin _ _ (fun b ob hb e => it_else hb e) g1 (fun T z => z) (.drawn hp (it_else (hT T rfl) hT2))
      dsimp only at q
      rw [e2] at q
      exact q
  | plain hb hpl hled =>
    dsimp only
    unfold setNext setsByText
    refine wpAny_bind (wpAny_bind (wpAny_setState_of ho hd ti.fits ?_))
    dsimp only
    refine wpAny_bind (wpAny_bind (wpAny_askSetting (wpAny_pure ?_)))
    dsimp only
    rw [show (model prog w).w.params.followText "set-order" = false from hb]
    simp only [↓reduceIte, Int.toNat_natCast, bne_self_eq_false, Bool.false_eq_true]
    rw [if_neg (fun z => by have z' : (!t.plain && decide (es.size > 1)) = true := z; rw [hpl] at z'; cases z')]
    have led0 : ∀ {Q1 : Unit → Shared → Prop} {E1 : Value → Shared → Prop}, Q1 () s → wpAny (model prog w) A.in1 (if (!t.led && !es.isEmpty) = true then unsupported "set:maker-not-led" else pure ()) Q1 E1 s := fun q => by
      rw [hled, if_neg (by simp)]
      exact wpAny_pure q
    refine wpAny_bind (led0 ?_)
    rw [List.getElem?_map, Array.getElem?_toList] at hv
    cases hq : es[i]? with
    | none => rw [hq] at hv; cases hv
    | some e =>
      rw [hq] at hv
      cases hv
      have hlt : i < es.size := (Array.getElem?_eq_some_iff.mp hq).1
      have hlp : i < t.place.size := by rw [ti.size]; exact hlt
      rw [below_at ti.ris (Nat.le_of_lt hlp), hq, Array.getElem?_eq_getElem hlp]
      refine wpAny_pure ?_
      dsimp only
      refine two _ fun h1 k1 g1 => ⟨_, rfl, wpAny_pure (fin h1 _ k1 g1 (fun T z => by cases z) ?_)⟩
      have q := Fst.plain (w := w) (a := a) (es := es) (ep := ep) (t := t) (h := h1) (i := i + 1) (tk := 0) hb hpl hled
      rw [if_neg (Nat.succ_ne_zero i), Nat.add_sub_cancel, getD_in hlp] at q
      exact q
theorem next_end {Q : Option Value → Shared → Prop} (hh : A.handled = none) (ho : s.heap.get? a = some o) (hex : o.ExactSet) (hd : o.data = .set es ep t) (ti : TabI t es.size) (hI : s.heap.get? I = some (itObj first i a es.size ep)) (hne : a ≠ I)
    (F : Fst w a es ep t s.heap i first vs) (hi : i = vs.length)
    (fin : ∀ h1, (∀ b ob, b ≠ I → s.heap.get? b = some ob → h1.get? b = some ob) → Q none { s with heap := h1 }) :
    wpAny (model prog w) A (pyNext (.ref I)) Q E s := by
  have hTy : s.TypeIs (.ref I) "set_iterator" := ⟨_, hI, rfl⟩
  have hlen : i = es.size := by rw [hi, F.perm.length_eq, List.length_map, Array.length_toList]
  unfold pyNext
  refine wpAny_bind (wpAny_attempt (wpAny_callSpecial?_slot (name := Str.ofString "__next__") hTy si_next (wpAny_call_entry si_next hTy si_entry ?_ (si_args _))))
  unfold Builtin.«set_iterator.__next__» slotArgs
  simp only [List.isEmpty_nil, Bool.not_true, Bool.false_eq_true, ↓reduceIte, bind_assoc, List.length_nil, bne_self_eq_false]
  refine wpAny_bind (wpAny_pure ?_)
  dsimp only
  refine wpAny_bind (wpAny_fieldsOf hI rfl ?_)
  dsimp only [rawInt]
  refine wpAny_bind (wpAny_setEntries_of ho hd ti.fits ?_)
  rw [if_neg (by simp)]
  -- StopIteration is raised, and taken here
  have stop : ∀ (h0 : Heap) {Q1 : Fin → Shared → Prop}, (∀ b ob, b ≠ I → s.heap.get? b = some ob → h0.get? b = some ob) → wpAny (model prog w) A.in1 (do let e ← newExc (.type "StopIteration") []; raiseNew e) Q1
      (fun e s' => wpAny (model prog w) A (do let b ← isInstance e (.type "StopIteration"); if b = true then pure none else throw e) Q E s') { s with heap := h0 } := by
    intro h0 Q1 k0
    refine wpAny_bind ?_
    simp only [newExc, newTuple]
    refine wpAny_bind (wpAny_newObj_type ?_ (by size_fits))
    refine wpAny_bind (m := firstArgMember _ _) (wpAny_of_eq (a := Value.none) (by first | rfl | (simp only [firstArgMember]; rfl)) ?_)
    refine wpAny_newObj_type ?_ (by size_fits)
    simp only [raiseNew]
    refine wpAny_bind (wpAny_handled ?_)
    rw [show A.in1.handled = none from hh]
    refine wpAny_bind (wpAny_pure (wpAny_throw ?_))
    refine wpAny_bind (wpAny_isInstance (T := "StopIteration") (b := true) ⟨_, Heap.get?_push_size _ rfl, rfl⟩ isSubtype_stop ?_)
    exact wpAny_pure (fin _ fun b ob hb e => Heap.get?_push_of_some _ (Heap.get?_push_of_some _ (k0 b ob hb e)))
  have one : ∀ {Q1 : Fin → Shared → Prop}, wpAny (model prog w) A.in1 (do setField (.ref I) 2 .none; let e ← newExc (.type "StopIteration") []; raiseNew e) Q1
      (fun e s' => wpAny (model prog w) A (do let b ← isInstance e (.type "StopIteration"); if b = true then pure none else throw e) Q E s') s := by
    intro Q1
    exact wpAny_bind (wpAny_setField hI rfl (by simp) (stop _ fun b ob hb e => it_else hb e))
  cases F with
  | byText hb =>
    dsimp only
    unfold setNext setsByText
    refine wpAny_bind (wpAny_bind (wpAny_setState_of ho hd ti.fits ?_))
    dsimp only
    refine wpAny_bind (wpAny_bind (wpAny_askSetting (wpAny_pure ?_)))
    dsimp only
    rw [show (model prog w).w.params.followText "set-order" = true from hb]
    simp only [↓reduceIte, Int.toNat_natCast, bne_self_eq_false, Bool.false_eq_true]
    unfold setWalk setsByText
    refine wpAny_bind (wpAny_bind (wpAny_setState_of ho hd ti.fits ?_))
    dsimp only
    refine wpAny_bind (wpAny_bind (wpAny_askSetting (wpAny_pure ?_)))
    dsimp only
    rw [show (model prog w).w.params.followText "set-order" = true from hb]
    simp only [↓reduceIte]
    refine wpAny_bind (wpAny_askSetting (wpAny_pure ?_))
    dsimp only
    have no : (pickOrder ((model prog w).w.params.setOrder a ep) es)[i]? = none := by
      rw [Array.getElem?_eq_none_iff]
      rw [hi, List.length_map, Array.length_toList]
      exact Nat.le_refl _
    rw [no]
    refine wpAny_pure ?_
    exact one
  | @drawn T c ps hp hT2 =>
    dsimp only
    refine wpAny_bind (wpAny_seqItems hT2 rfl ?_)
    dsimp only
    have e1 : (List.map (fun (p : Nat) => rawInt p) ps).toArray[((i : Int)).toNat]? = none := by
      rw [hi]
      simp
    rw [e1]
    dsimp only
    refine wpAny_bind (wpAny_setField hI rfl (by simp) ?_)
    have g1 := it_put (n := es.size) 0 (.int 0 0) hI
    refine wpAny_bind (wpAny_setField g1 rfl (by simp) ?_)
    exact stop _ fun b ob hb e => it_else hb (it_else hb e)
  | plain hb hpl hled =>
    dsimp only
    unfold setNext setsByText
    refine wpAny_bind (wpAny_bind (wpAny_setState_of ho hd ti.fits ?_))
    dsimp only
    refine wpAny_bind (wpAny_bind (wpAny_askSetting (wpAny_pure ?_)))
    dsimp only
    rw [show (model prog w).w.params.followText "set-order" = false from hb]
    simp only [↓reduceIte, Int.toNat_natCast, bne_self_eq_false, Bool.false_eq_true]
    rw [if_neg (fun z => by have z' : (!t.plain && decide (es.size > 1)) = true := z; rw [hpl] at z'; cases z')]
    have led0 : ∀ {Q1 : Unit → Shared → Prop} {E1 : Value → Shared → Prop}, Q1 () s → wpAny (model prog w) A.in1 (if (!t.led && !es.isEmpty) = true then unsupported "set:maker-not-led" else pure ()) Q1 E1 s := fun q => by
      rw [hled, if_neg (by simp)]
      exact wpAny_pure q
    refine wpAny_bind (led0 ?_)
    rw [below_at ti.ris (by rw [ti.size, hlen]; exact Nat.le_refl _), Array.getElem?_eq_none (by rw [hlen]; exact Nat.le_refl _)]
    refine wpAny_pure ?_
    exact one
end
end SetM
set_option linter.all false
set_option maxRecDepth 100000
namespace SetM
open PySem PyProof.Rows
theorem si_iter : Slot "set_iterator" "__iter__" "set_iterator.__iter__" :=
  Slot.of (owner := "set_iterator") (n := "__iter__") (by rw [typeLookup_type, builtinLookup_eq_fast]; kernel_rfl) (by decide +kernel) (by decide +kernel) (by decide +kernel) (.inl (by decide +kernel)) (by rw [isSubtype_type]; kernel_rfl)
theorem si_iter_entry : entryFor table "set_iterator.__iter__" = some Builtin.«dict_keyiterator.__iter__» := entryFor_alias (id' := "dict_keyiterator.__iter__") (by kernel_rfl) rfl (by decide +kernel) (by kernel_rfl)
theorem si_iter_args (a : Value) : argsOk "set_iterator.__iter__" ⟨[a], []⟩ := by unfold argsOk; kernel_rfl
section
variable {prog : Program} {w : World} {A : Around} {E : Value → Shared → Prop} {s : Shared} {a I : Addr} {o : Obj} {es : Array (Int × Value)} {ep : Nat} {t : SetTable} {vs : List Value}
def StI (w : World) (a I : Addr) (o : Obj) (es : Array (Int × Value)) (ep : Nat) (t : SetTable) (Ts : List Addr) (vs : List Value) (i : Nat) (h : Heap) : Prop :=
  ∃ first, h.get? I = some (itObj first i a es.size ep) ∧ h.get? a = some o ∧ (∀ T, first = .ref T → T ∈ Ts) ∧ Fst w a es ep t h i first vs
theorem walks_set (hh : A.handled = none) (hex : o.ExactSet) (hd : o.data = .set es ep t) (ti : TabI t es.size) (hne : a ≠ I) (Ts : List Addr) (hTs : I ∉ Ts) :
    Walks prog w A I (I :: a :: Ts) [I] vs.length (fun i v => vs[i]? = some v) (StI w a I o es ep t Ts vs) where
  sub := fun b hb => by rw [List.mem_singleton.mp hb]; exact List.mem_cons_self
  frame := fun i h h1 st k => by
    obtain ⟨first, g1, g2, g3, F⟩ := st
    exact ⟨first, k I List.mem_cons_self _ g1, k a (List.mem_cons_of_mem _ List.mem_cons_self) _ g2, g3, F.heap fun T e ob q => k T (List.mem_cons_of_mem _ (List.mem_cons_of_mem _ (g3 T e))) ob q⟩
  item := fun i s Q E hi st fin => by
    obtain ⟨first, g1, g2, g3, F⟩ := st
    refine next_item g2 hex hd ti g1 hne (fun T e z => hTs (z ▸ g3 T e)) F (List.getElem?_eq_getElem hi) fun h1 first' k1 q1 q2 F1 => ?_
    exact fin _ h1 s.toks (List.getElem?_eq_getElem hi) ⟨first', q1, k1 a o hne g2, fun T e => g3 T (q2 T e), F1⟩ fun b ob hb e => k1 b ob (fun z => hb (by rw [z]; exact List.mem_singleton_self _)) e
  done := fun s Q E st fin => by
    obtain ⟨first, g1, g2, g3, F⟩ := st
    exact next_end hh g2 hex hd ti g1 hne F rfl fun h1 k1 => fin h1 s.toks fun b ob hb e => k1 b ob (fun z => hb (by rw [z]; exact List.mem_singleton_self _)) e
  self := fun i s Q E st q => by
    obtain ⟨first, g1, g2, g3, F⟩ := st
    have hTy : s.TypeIs (.ref I) "set_iterator" := ⟨_, g1, rfl⟩
    refine wpAny_pyIter_slot hTy si_iter (wpAny_call_entry si_iter hTy si_iter_entry ?_ (si_iter_args _))
    exact wpAny_pure ⟨_, rfl, "set_iterator", _, hTy, si_next.lookup, q⟩
theorem hint_set (hT : s.TypeIs (.ref a) "set") {Q : Bool → Shared → Prop} (h : Q false s) : wpAny (model prog w) A (Builtin.List.listLengthHint (.ref a)) Q E s := by
  unfold Builtin.List.listLengthHint
  refine wpAny_bind (wpAny_specialOf hT PySem.F.slot_set_len.lookup ?_)
  generalize hid : ("set.__len__" : String) = id0
  wp_delta
  rw [show splitId id0 = some ("set", "__len__") from by subst hid; decide +kernel]
  subst hid
  refine wpAny_bind (wpAny_isInstance (b := true) hT sub_set_self (wpAny_ite_split (fun z => absurd z (by decide)) fun _ => wpAny_ite_split (fun _ => ?_) fun z => absurd (by decide +kernel) z))
  exact wpAny_bind (wpAny_typeOf hT (wpAny_pure h))
/-- all that a set holds, in some order -/
theorem collect_set {Q : List Value → Shared → Prop} (hh : A.handled = none) (ho : s.heap.get? a = some o) (hex : o.ExactSet) (hd : o.data = .set es ep t) (ti : TabI t es.size) (hl : t.led = !(w.params.followText "set-order")) (hb : es.size < scanBound)
    (fin : ∀ (h1 : Heap) (tk : Nat) (d : Drawn) (vs : List Value), (∀ b ob, s.heap.get? b = some ob → h1.get? b = some ob) → s.heap.objs.size < h1.objs.size → vs.Perm (es.toList.map (·.2)) → Q vs { s with heap := h1, toks := tk, drawn := d }) :
    wpAny (model prog w) A (collect (.ref a)) Q E s := by
  have alt := Heap.lt_size ho
  unfold collect
  refine wpAny_bind (wpAny_runValue (codeAny_builtin entry_proto_collect' ?_))
  rw [Around.under_plainId PySem.F.plain_proto_collect]
  refine wpAny_bind (m := newList []) (wpAny_newObj_type (wpAny_pure ⟨plainId_quiet PySem.F.plain_list_iadd _, codeAny_builtin entry_list_iadd' ?_⟩))
  rw [Around.under_plainId PySem.F.plain_list_iadd]
  generalize hs1 : ({ s with heap := s.heap.push { cls := .type "list", dict := none, data := .seq ([] : List Value).toArray } } : Shared) = s1
  change wpAny (model prog w) A.in1 (Builtin.List.listExtendWith (.ref s.heap.objs.size) (.ref a) (.ref s.heap.objs.size)) _ _ _
  have at1 : s1.heap.get? s.heap.objs.size = some { cls := .type "list", dict := none, data := .seq #[] 0, slots := #[] } := by rw [← hs1]; exact Heap.get?_push_size _ rfl
  have k1 : ∀ b ob, s.heap.get? b = some ob → s1.heap.get? b = some ob := fun b ob e => by rw [← hs1]; exact Heap.get?_push_of_some _ e
  have ho1 := k1 a o ho
  have hT1 : s1.TypeIs (.ref a) "set" := ⟨o, ho1, hex.1⟩
  unfold Builtin.List.listExtendWith
  refine wpAny_bind (wpAny_typeOf hT1 ?_)
  have n1 : Builtin.List.listSameRef (.ref s.heap.objs.size) (.ref a) = false := by
    simp only [Builtin.List.listSameRef, beq_eq_false_iff_ne]
    exact Nat.ne_of_gt alt
  have n2 : (Value.type "set" == Value.type "list") = false := by decide
  have n3 : (Value.type "set" == Value.type "tuple") = false := by decide
  simp only [n1, n2, n3, Bool.or_false, Bool.false_eq_true, if_false]
  refine wpAny_bind (iter_set ho1 hex hd ti hl hb fun I first h2 d vs k2 hI at2 hf F => ?_)
  generalize hS : s.heap.objs.size = S at *
  have S1 : S < s1.heap.objs.size := Heap.lt_size at1
  obtain ⟨Ts, tin, tout, tall⟩ : ∃ Ts : List Addr, (∀ T, first = .ref T → T ∈ Ts) ∧ I ∉ Ts ∧ ∀ T ∈ Ts, s1.heap.objs.size ≤ T := by
    cases first with
    | ref T => exact ⟨[T], (fun T' e => by cases e; exact List.mem_singleton_self _), fun z => (hf T rfl).1 (List.mem_singleton.mp z).symm, fun T' z => by rw [List.mem_singleton.mp z]; exact (hf T rfl).2⟩
    | _ => exact ⟨[], (fun T e => nomatch e), List.not_mem_nil, fun T z => absurd z List.not_mem_nil⟩
  have aI : a ≠ I := Nat.ne_of_lt (Nat.lt_of_lt_of_le (Nat.lt_trans alt S1) hI)
  have SI : S ≠ I := Nat.ne_of_lt (Nat.lt_of_lt_of_le S1 hI)
  have Sfp : S ∉ I :: a :: Ts := fun z => by
    rcases List.mem_cons.mp z with z | z
    · exact SI z
    · rcases List.mem_cons.mp z with z | z
      · exact Nat.ne_of_gt alt z
      · exact absurd (Nat.lt_of_lt_of_le S1 (tall S z)) (Nat.lt_irrefl _)
  have hn : vs.length ≤ sizeLine := by
    rw [F.perm.length_eq, List.length_map, Array.length_toList]
    exact fits_of_scanBound hb
  have W := walks_set (prog := prog) (w := w) (A := A.in1) (vs := vs) hh hex hd ti aI Ts tout
  have st2 : StI w a I o es ep t Ts vs 0 h2 := ⟨first, at2, k2 a o ho1, tin, F⟩
  have key : ∀ (h3 : Heap) (c : Nat), StI w a I o es ep t Ts vs 0 h3 → h3.get? S = some { cls := .type "list", dict := none, data := .seq #[] c, slots := #[] } → (∀ b ob, s.heap.get? b = some ob → h3.get? b = some ob) →
      codeAny (model prog w) A (.builtin "list.extend.loop" ⟨[.ref S, .ref I, .ref S], []⟩) (fun r s' => match r with
        | .ok (.ret v) => wpAny (model prog w) A (match v with
            | .ref a => do
              let x ← load a
              match x.data with
                | .seq xs _ => pure xs.toList
                | _ => unsupported "internal:collect"
            | _ => unsupported "internal:collect") Q E s'
        | .ok _ => False
        | .error e => E e s') { heap := h3, gens := s1.gens, drawn := d, toks := s1.toks, os := s1.os } := by
    intro h3 c st3 g3 k3
    refine codeAny_extend_loopS W.toS hn S Sfp (.ref S) vs.length 0 _ #[] c rfl (Nat.zero_le _) st3 g3 (ItemsOf.nil _) fun s4 acc c4 mv g4 items => ?_
    dsimp only
    refine wpAny_bind (wpAny_load g4 ?_)
    dsimp only
    obtain ⟨h4, gg, d4, tk4, o4⟩ := s4
    have x1 : gg = s1.gens := mv.gens
    have x2 : d4 = d := mv.drawn
    have x3 : o4 = s1.os := mv.os
    subst x1 x2 x3
    have ev : acc.toList = vs := by
      apply List.ext_getElem?
      intro i
      rw [Array.getElem?_toList]
      by_cases hi : i < vs.length
      · have hi' : i < acc.size := by rw [items.1]; exact hi
        rw [Array.getElem?_eq_getElem hi']
        exact (items.2 i _ (Array.getElem?_eq_getElem hi')).symm
      · rw [Array.getElem?_eq_none (by rw [items.1]; omega), List.getElem?_eq_none (by omega)]
    rw [ev]
    have q := fin h4 tk4 d4 vs (fun b ob e => mv.heap b ob (fun z => ?_) (k3 b ob e)) (Heap.lt_size g4) F.perm
    · rw [← hs1]
      exact wpAny_pure q
    · have lb := Heap.lt_size e
      rcases List.mem_cons.mp z with z | z
      · rw [hS, z] at lb
        exact Nat.lt_irrefl _ lb
      · rw [List.mem_singleton.mp z, hS] at lb
        exact Nat.lt_irrefl _ (Nat.lt_of_lt_of_le (Nat.lt_trans lb S1) hI)
  have kall : ∀ b ob, s.heap.get? b = some ob → h2.get? b = some ob := fun b ob e => k2 b ob (k1 b ob e)
  have nbS : ∀ {b : Addr} {ob : Obj}, s.heap.get? b = some ob → b ≠ S := fun e => Nat.ne_of_lt (hS ▸ Heap.lt_size e)
  refine wpAny_bind (wpAny_holding (hint_set ⟨o, k2 a o ho1, hex.1⟩ ?_))
  refine wpAny_ite_split (fun _ => ?_) (fun _ => wpAny_pure ⟨plainId_quiet PySem.F.plain_extend_loop _, key h2 0 st2 (k2 S _ at1) kall⟩)
  refine wpAny_bind (wpAny_rule (wpAny_bind (m := Builtin.List.listTouch (.ref S)) ?_))
  change wpAny (model prog w) _ (updateSeq S (·.push .none) >>= fun _ => updateSeq S (·.pop)) _ _ _
  refine wpAny_bind (wpAny_updateSeq (k2 S _ at1) rfl ?_)
  have u1 := Heap.get?_update_self (Obj.mapSeq (·.push Value.none)) (k2 S _ at1) rfl
  refine wpAny_updateSeq (hz := by seq_fits) u1 rfl ?_
  have u2 := Heap.get?_update_self (Obj.mapSeq (·.pop)) u1 rfl
  have other : ∀ b ob, b ≠ S → h2.get? b = some ob → ((h2.update S (Obj.mapSeq (·.push Value.none))).update S (Obj.mapSeq (·.pop))).get? b = some ob := fun b ob z e => (Heap.get?_update_other _ _ (Ne.symm z)).trans ((Heap.get?_update_other _ _ (Ne.symm z)).trans e)
  refine wpAny_pure ⟨plainId_quiet PySem.F.plain_extend_loop _, key _ _ (W.frame 0 _ _ st2 fun b z ob e => other b ob (fun y => Sfp (y ▸ z)) e) u2 fun b ob e => other b ob (nbS e) (kall b ob e)⟩
end
end SetM
set_option linter.all false
set_option maxRecDepth 100000
namespace SetM
open PySem PyProof.Rows
section
variable {prog : Program} {w : World} {K : Type} [DecidableEq K] {knd : PySem.KeyKind prog w K} {A : Around} {E : Value → Shared → Prop} {s : Shared} {a : Addr}
theorem sortedHeap_keep {h : Heap} {l b : Addr} {vs : List Value} {out : Array Value} {ob : Obj} (hb : b ≠ l) (e : h.get? b = some ob) : (sortedHeap h l vs out).get? b = some ob := by
  rw [sortedHeap_old hb (Heap.lt_size e)]
  exact e
theorem paired_map {α β γ : Type} {G : α → γ → Prop} {g : β → γ} : ∀ {l : List α} {r : List β}, Paired (fun x y => G x (g y)) l r → Paired G l (r.map g)
  | _, _, .nil => .nil
  | _, _, .cons q t => .cons q (paired_map t)
/-- sorted(a set): the sort of what it holds -/
theorem sorted_of_set {ks : List K} {Q : Value → Shared → Prop} (hh : A.handled = none) (hS : SetG knd s.heap a ks)
    (fin : ∀ (h1 : Heap) (tk : Nat) (d : Drawn) (vs : List Value) (ks1 : List K), (∀ b ob, s.heap.get? b = some ob → h1.get? b = some ob) → s.heap.objs.size < h1.objs.size → Paired (fun k v => knd.is k v = true) ks1 vs → ks1.Perm ks →
      wpAny (model prog w) A.in1.in1 (Builtin.«list.sort» ⟨[.ref h1.objs.size], []⟩) (fun r s2 => r = .done (.ret .none) ∧ Q (.ref h1.objs.size) s2) E { s with heap := h1.push (seqObj "list" vs.toArray 0), toks := tk, drawn := d }) :
    wpAny (model prog w) A (call (.builtin "sorted") [.ref a]) Q E s := by
  obtain ⟨o, ho, S⟩ := hS
  obtain ⟨es, ep, t, hd, hel, pr, hb, ti, hl⟩ := S.dat
  refine Calls.call_function_entry kind_sorted plain_sorted entry_sorted (args_sorted1 _) ?_
  unfold Builtin.«sorted»
  refine wpAny_bind (m := checkCount "sorted" 1 1 _) (wpAny_pure ?_)
  refine wpAny_bind (collect_set hh ho S.ex hd ti hl hb fun h1 tk d vs k1 sz hp => ?_)
  have hn : vs.length ≤ sizeLine := by
    rw [hp.length_eq, List.length_map, Array.length_toList]
    exact fits_of_scanBound hb
  have pr2 : Paired (fun k v => knd.is k v = true) ks (es.toList.map (·.2)) := paired_map pr
  obtain ⟨ks1, pr3, pk⟩ := paired_perm hp pr2
  refine wpAny_bind (wpAny_newList ?_ hn)
  refine wpAny_bind (wpAny_holding ?_)
  have at1 : (h1.push (seqObj "list" vs.toArray 0)).get? h1.objs.size = some (seqObj "list" vs.toArray 0) := Heap.get?_push_size _ rfl
  refine wpAny_call_entry slot_list_sort ⟨_, at1, rfl⟩ entry_list_sort ?_ (args_list_sort _)
  refine wpAny_mono (fin h1 tk d vs ks1 k1 sz pr3 pk) (fun r s2 q => ?_) fun _ _ z => z
  obtain ⟨rfl, q⟩ := q
  exact ⟨_, rfl, wpAny_pure ⟨_, rfl, q⟩⟩
theorem ints_of {f : K → Int} : ∀ {ks : List K} {vs : List Value}, (∀ k v, k ∈ ks → knd.is k v = true → ∃ t, v = .int (f k) t) → Paired (fun k v => knd.is k v = true) ks vs → IntsAre vs (ks.map f)
  | _, _, _, .nil => .nil
  | k :: ks, v :: vs, hf, .cons r t => by
    obtain ⟨tk, rfl⟩ := hf k v List.mem_cons_self r
    exact .cons _ _ (ints_of (fun k v hk => hf k v (List.mem_cons_of_mem _ hk)) t)
theorem strs_of {f : K → Str} : ∀ {ks : List K} {vs : List Value}, (∀ k v, k ∈ ks → knd.is k v = true → ∃ t, v = .str (f k) t) → Paired (fun k v => knd.is k v = true) ks vs → StrsAre vs (ks.map f)
  | _, _, _, .nil => .nil
  | k :: ks, v :: vs, hf, .cons r t => by
    obtain ⟨tk, rfl⟩ := hf k v List.mem_cons_self r
    exact .cons _ _ (strs_of (fun k v hk => hf k v (List.mem_cons_of_mem _ hk)) t)
theorem sorted_set_ints {ks : List K} {f : K → Int} {Q : Value → Shared → Prop} (hh : A.handled = none) (hS : SetG knd s.heap a ks) (hf : ∀ k v, k ∈ ks → knd.is k v = true → ∃ t, v = .int (f k) t) (h64 : ks.length < 64)
    (fin : ∀ (h1 : Heap) (tk : Nat) (d : Drawn) (l : Addr) (out : Array Value) (n : Nat) (ns : List Int), (∀ b ob, s.heap.get? b = some ob → h1.get? b = some ob) → s.heap.objs.size ≤ l → h1.get? l = some (seqObj "list" out n) → IntsAre out.toList ns → ns.Perm (ks.map f) → ns.Pairwise (· ≤ ·) → Q (.ref l) { s with heap := h1, toks := tk, drawn := d }) :
    wpAny (model prog w) A (call (.builtin "sorted") [.ref a]) Q E s := by
  refine sorted_of_set hh hS fun h1 tk d vs ks1 k1 sz pr pk => ?_
  have hI := ints_of (fun k v hk => hf k v (pk.mem_iff.mp hk)) pr
  have hlen : vs.length = ks.length := by rw [← pr.length, pk.length_eq]
  refine list_sort_tree (s := { s with heap := h1.push (seqObj "list" vs.toArray 0), toks := tk, drawn := d }) (Heap.get?_push_size _ rfl) hI (by omega) fun out ns q1 q2 q3 => ⟨rfl, ?_⟩
  obtain ⟨n, e⟩ := sortedHeap_at (h := h1.push (seqObj "list" vs.toArray 0)) (a := h1.objs.size) (vs := vs) (n := 0) (out := out) (Heap.get?_push_size _ rfl)
  exact fin _ tk d h1.objs.size out n ns (fun b ob e0 => sortedHeap_keep (Nat.ne_of_lt (Heap.lt_size (k1 b ob e0))) (Heap.get?_push_of_some _ (k1 b ob e0))) (Nat.le_of_lt sz) e q1 (q2.trans (pk.map f)) q3
theorem sorted_set_strs {ks : List K} {f : K → Str} {Q : Value → Shared → Prop} (hh : A.handled = none) (hS : SetG knd s.heap a ks) (hf : ∀ k v, k ∈ ks → knd.is k v = true → ∃ t, v = .str (f k) t) (h64 : ks.length < 64)
    (fin : ∀ (h1 : Heap) (tk : Nat) (d : Drawn) (l : Addr) (out : Array Value) (n : Nat) (ns : List Str), (∀ b ob, s.heap.get? b = some ob → h1.get? b = some ob) → s.heap.objs.size ≤ l → h1.get? l = some (seqObj "list" out n) → StrsAre out.toList ns → ns.Perm (ks.map f) → sortedS ns = true → Q (.ref l) { s with heap := h1, toks := tk, drawn := d }) :
    wpAny (model prog w) A (call (.builtin "sorted") [.ref a]) Q E s := by
  refine sorted_of_set hh hS fun h1 tk d vs ks1 k1 sz pr pk => ?_
  have hI := strs_of (fun k v hk => hf k v (pk.mem_iff.mp hk)) pr
  have hlen : vs.length = ks.length := by rw [← pr.length, pk.length_eq]
  refine list_sort_treeK strKind_oneLt (s := { s with heap := h1.push (seqObj "list" vs.toArray 0), toks := tk, drawn := d }) (Heap.get?_push_size _ rfl) hI.keysOf (fun v1 v2 rest e => keyKind_strs (by rw [← e]; exact hI)) (by omega) fun st hp hs => ⟨rfl, ?_⟩
  obtain ⟨ns, q1, q2, q3⟩ := sorted_out_str hI hp hs
  obtain ⟨n, e⟩ := sortedHeap_at (h := h1.push (seqObj "list" vs.toArray 0)) (a := h1.objs.size) (vs := vs) (n := 0) (out := (arrOf st).map (·.2)) (Heap.get?_push_size _ rfl)
  exact fin _ tk d h1.objs.size _ n ns (fun b ob e0 => sortedHeap_keep (Nat.ne_of_lt (Heap.lt_size (k1 b ob e0))) (Heap.get?_push_of_some _ (k1 b ob e0))) (Nat.le_of_lt sz) e q1 (q2.trans (pk.map f)) q3
end
end SetM
set_option Elab.async false
set_option linter.all false
set_option maxRecDepth 100000
namespace L2
open PySem PySem.Spec PyProof.Rows
/-! ### sets of keys: made, sorted -/
def SetHO (P : Program) (w : World) (a : Addr) (us : List Key) : HO := .ext fun h => SetM.SetG (mixKind P w) h a us
theorem scan_kV {P : Program} {w : World} (k : Key) {v : Value} (r : RelV (kV k) v) : (mixKind P w).is k v = true ∧ v.scannable = true := by
  cases k with
  | inl i => obtain ⟨t, rfl⟩ := (show ∃ t, v = Value.int i t from r); exact ⟨keyIs_int i t, rfl⟩
  | inr x => obtain ⟨t, rfl⟩ := (show ∃ t, v = Value.str x t from r); exact ⟨keyIs_str x t, rfl⟩
theorem Inv.put {X : Cx} {pins : List (Addr × Obj)} {σ : St} {H : Hp} {s : Shared} {h' : Heap} {a : Addr} {o : HO} {t' : Nat} {d' : Drawn} (I : Inv X pins σ H s) (k : ∀ b u, s.heap.get? b = some u → h'.get? b = some u) (hp : s.heap.objs.size ≤ a) (new : ObjOk X.prog X.w (upd H a o) h' a o) :
    Inv X pins σ (upd H a o) { s with heap := h', toks := t', drawn := d' } :=
  I.call (g' := s.gens) (t' := t') (d' := d') (ch := []) (Un.laid k hp (I.hok.fresh hp)) (I.hok.laid k hp new) I.bare fun b z => absurd z List.not_mem_nil
section
variable {X : Cx}
theorem call_setK (hc : X.calm = true) : CallR X (.type "set") (fun xs H Q => ∃ (p : Addr) (ks : List Key), xs = [.ref p] ∧ SqL X.K H p (ks.map kV) ∧ ks.length + 1 < scanBound ∧
    ∀ (l : Addr) (us : List Key), H l = none → us.Nodup → (∀ x, x ∈ us ↔ x ∈ ks) → us.length ≤ ks.length → Q (.ref l) (upd H l (SetHO X.prog X.w l us))) := by
  intro pins s σ H xs us Q I r h
  obtain ⟨p, ks, rfl, hq, hz, q⟩ := h
  obtain ⟨u, rfl, rx⟩ := vals1 r
  cases rx
  obtain ⟨its, rv, pl, hzz⟩ := I.list hq
  have hl : its.toArray.size = ks.length := by rw [List.size_toArray, ← rv.length, List.length_map]
  refine SetM.call_set (knd := mixKind X.prog X.w) (val := fun i => ks.getD i (.inl 0)) (I.ok.hd hc) pl.isList (fun i v e => ?_) (by omega) fun h1 tk ws S u k1 => ?_
  · have e' : its[i]? = some v := by simpa using e
    have hi : i < ks.length := by
      have := (List.getElem?_eq_some_iff.mp e').1
      rw [List.size_toArray] at hl
      omega
    have e2 : (ks.map kV)[i]? = some (kV ks[i]) := by rw [List.getElem?_map, List.getElem?_eq_getElem hi]; rfl
    obtain ⟨v', g1, g2⟩ := rv.get e2
    rw [e'] at g1
    cases g1
    have e3 : ks.getD i (.inl 0) = ks[i] := by simp [hi]
    rw [e3]
    exact scan_kV _ g2
  · obtain ⟨o, ho, SO⟩ := id S
    have mem : ∀ x, x ∈ ws ↔ x ∈ ks := fun x => by
      rw [u.mem x, hl]
      constructor
      · rintro ⟨j, h1, h2⟩
        rw [← h2]
        have e3 : ks.getD j (.inl 0) = ks[j] := by simp [h1]
        rw [e3]
        exact List.getElem_mem h1
      · intro hx
        obtain ⟨j, h1, h2⟩ := List.mem_iff_getElem.mp hx
        exact ⟨j, h1, by simp [h1, h2]⟩
    refine ⟨.ref s.heap.objs.size, _, I.put (o := SetHO X.prog X.w s.heap.objs.size ws) (d' := s.drawn) k1 (Nat.le_refl _) ⟨S, ⟨o, ho⟩, fun h2 h3 x e => SetM.SetG.at' x e⟩, rfl, q _ ws (I.hok.fresh (Nat.le_refl _)) SO.nd mem ?_⟩
    have := u.len
    omega
theorem vals_strs : ∀ {vs : List Value} {ss : List Str}, StrsAre vs ss → Vals (ss.map V.str) vs
  | _, _, .nil => .nil
  | _, _, .cons y t r => .cons ⟨t, rfl⟩ (vals_strs r)
theorem call_sortedI (hc : X.calm = true) : CallR X (.builtin "sorted") (fun xs H Q => ∃ (a : Addr) (zs : List Int), xs = [.ref a] ∧ H a = some (SetHO X.prog X.w a (zs.map Sum.inl)) ∧ zs.length < 64 ∧
    ∀ (l : Addr) (ns : List Int), H l = none → ns.Perm zs → ns.Pairwise (· ≤ ·) → Q (.ref l) (upd H l (.lst (ns.map V.int)))) := by
  intro pins s σ H xs us Q I r h
  obtain ⟨a, zs, rfl, hq, hz, q⟩ := h
  obtain ⟨u, rfl, rx⟩ := vals1 r
  cases rx
  obtain ⟨S, _, _⟩ := (show SetM.SetG (mixKind X.prog X.w) s.heap a (zs.map Sum.inl) ∧ _ from I.hok a _ hq)
  refine SetM.sorted_set_ints (knd := mixKind X.prog X.w) (f := fun k => match k with | .inl i => i | .inr _ => 0) (I.ok.hd hc) S (fun k v hk hv => ?_) (by rw [List.length_map]; exact hz) fun h1 tk d l out n ns k1 sz at1 hI pm pw => ?_
  · obtain ⟨i, _, rfl⟩ := List.mem_map.mp hk
    rcases keyIs_shape (show keyIs (Sum.inl i) v = true from hv) with ⟨j, t, e, rfl⟩ | ⟨x, t, e, rfl⟩
    · cases e; exact ⟨t, rfl⟩
    · cases e
  · have pm' : ns.Perm zs := by
      have e : (zs.map (Sum.inl : Int → Key)).map (fun k => match k with | .inl i => i | .inr _ => 0) = zs := by rw [List.map_map]; exact List.map_id' _ 
      rw [← e]; exact pm
    refine ⟨.ref l, _, I.put (o := .lst (ns.map V.int)) k1 sz ⟨?_, out.toList, n, vals_ints hI, ?_⟩, rfl, q l ns (I.hok.fresh sz) pm' pw⟩
    · rw [List.length_map, pm'.length_eq]
      exact Nat.le_of_lt (small1000 (by omega))
    · simpa using at1
theorem call_sortedS (hc : X.calm = true) : CallR X (.builtin "sorted") (fun xs H Q => ∃ (a : Addr) (zs : List Str), xs = [.ref a] ∧ H a = some (SetHO X.prog X.w a (zs.map Sum.inr)) ∧ zs.length < 64 ∧
    ∀ (l : Addr) (ns : List Str), H l = none → ns.Perm zs → sortedS ns = true → Q (.ref l) (upd H l (.lst (ns.map V.str)))) := by
  intro pins s σ H xs us Q I r h
  obtain ⟨a, zs, rfl, hq, hz, q⟩ := h
  obtain ⟨u, rfl, rx⟩ := vals1 r
  cases rx
  obtain ⟨S, _, _⟩ := (show SetM.SetG (mixKind X.prog X.w) s.heap a (zs.map Sum.inr) ∧ _ from I.hok a _ hq)
  refine SetM.sorted_set_strs (knd := mixKind X.prog X.w) (f := fun k => match k with | .inl _ => ("" : Str) | .inr x => x) (I.ok.hd hc) S (fun k v hk hv => ?_) (by rw [List.length_map]; exact hz) fun h1 tk d l out n ns k1 sz at1 hI pm pw => ?_
  · obtain ⟨x, _, rfl⟩ := List.mem_map.mp hk
    rcases keyIs_shape (show keyIs (Sum.inr x) v = true from hv) with ⟨j, t, e, rfl⟩ | ⟨y, t, e, rfl⟩
    · cases e
    · cases e; exact ⟨t, rfl⟩
  · have pm' : ns.Perm zs := by
      have e : (zs.map (Sum.inr : Str → Key)).map (fun k => match k with | .inl _ => ("" : Str) | .inr x => x) = zs := by rw [List.map_map]; exact List.map_id' _
      rw [← e]; exact pm
    refine ⟨.ref l, _, I.put (o := .lst (ns.map V.str)) k1 sz ⟨?_, out.toList, n, vals_strs hI, ?_⟩, rfl, q l ns (I.hok.fresh sz) pm' pw⟩
    · rw [List.length_map, pm'.length_eq]
      exact Nat.le_of_lt (small1000 (by omega))
    · simpa using at1
end
end L2
set_option linter.all false
set_option maxRecDepth 100000
namespace ZipL
open PySem PySem.Calls PyProof.Rows PyProof.V PySem.Spec
/-- a zip of two, whose pair may be out -/
abbrev ZAt (h : Heap) (z TI TO : Addr) (f0 f1 : Value) : Prop :=
  h.get? z = some { cls := .type "zip", dict := none, data := .fields #[f0, f1, .bool false, .ref TI, .ref TO], slots := #[] }
section
variable {prog : Program} {w : World} {A : Around} {E : Value → Shared → Prop} {s : Shared} {z TI TO T i1 i2 l1 l2 : Addr} {f : Bool} {oT : Obj} {k1 k2 : Nat} {xs ys : Array Value} {x y : Value}
theorem busy {Q : Bool → Shared → Prop} (hz : ZAt s.heap z TI TO (rawInt T) (.bool f)) (hT : s.heap.get? T = some oT)
    (fin : ∀ h', ZAt h' z TI TO (rawInt T) (.bool true) → Heap.SameBut z s.heap h' → Q false { s with heap := h' }) :
    wpAny (model prog w) A (Builtin.SmallTypes.ownedTupleIsFree (.ref z)) Q E s := by
  unfold Builtin.SmallTypes.ownedTupleIsFree
  refine wpAny_bind (wpAny_field hz rfl (x := rawInt T) rfl ?_)
  change wpAny _ _ (loadIfAlive ((T : Int).toNat) >>= _) _ _ _
  rw [Int.toNat_natCast]
  refine wpAny_bind (PySem.W.kdx_alive hT ?_)
  simp only [Option.isNone_some, Bool.false_eq_true, if_false]
  refine wpAny_bind (wpAny_field hz rfl (x := .bool f) rfl ?_)
  cases f with
  | true =>
    have e : (Value.bool true != Value.bool true) = false := rfl
    rw [e]
    simp only [Bool.false_eq_true, if_false]
    exact wpAny_pure (fin s.heap hz (Heap.SameBut.refl _ _))
  | false =>
    have e : (Value.bool false != Value.bool true) = true := rfl
    rw [e]
    simp only [if_true]
    refine wpAny_bind (wpAny_setField_rec hz (by simp) fun h' hz' hs' => ?_)
    exact wpAny_pure (fin h' hz' hs')
theorem more_item {Q : Value → Shared → Prop} (D : ZipApart z TI TO i1 i2 l1 l2) (hz : ZAt s.heap z TI TO (rawInt T) (.bool f)) (hT : s.heap.get? T = some oT) (hTI : IsPair s.heap TI (.ref i1) (.ref i2))
    (h1 : s.heap.IsListIter i1 l1 k1) (h2 : s.heap.IsListIter i2 l2 k2) (hl1 : s.heap.IsList l1 xs) (hl2 : s.heap.IsList l2 ys) (hx : xs[k1]? = some x) (hy : ys[k2]? = some y)
    (hQ : ∀ h', ZAt h' z TI TO (rawInt T) (.bool true) → h'.IsListIter i1 l1 (k1 + 1) → h'.IsListIter i2 l2 (k2 + 1) → IsPair h' s.heap.objs.size x y → h'.objs.size = s.heap.objs.size + 1 →
      (∀ c o, c ≠ z → c ≠ i1 → c ≠ i2 → s.heap.get? c = some o → h'.get? c = some o) → Q (.ref s.heap.objs.size) { s with heap := h' }) :
    wpAny (model prog w) A (Builtin.«zip.__next__» ⟨[.ref z], []⟩) (fun fin s' => ∃ v, fin = .done (.ret v) ∧ Q v s') E s := by
  change wpAny _ _ (field (.ref z) 2 >>= _) _ _ _
  refine wpAny_bind (wpAny_field hz rfl (x := .bool false) rfl ?_)
  change wpAny _ _ (field (.ref z) 3 >>= _) _ _ _
  refine wpAny_bind (wpAny_field hz rfl (x := .ref TI) rfl ?_)
  refine wpAny_bind (wpAny_seqItems hTI rfl ?_)
  change wpAny _ _ (Builtin.SmallTypes.ownedTupleIsFree (.ref z) >>= _) _ _ _
  refine wpAny_bind (busy hz hT fun g1 z1 s1 => ?_)
  simp only [Bool.false_eq_true, if_false]
  refine wpAny_bind ?_
  simp only [List.forIn_toArray, List.forIn_cons, List.forIn_nil]
  refine wpAny_bind (wpAny_bind (wpAny_holding ?_))
  change wpAny _ _ (Builtin.SmallTypes.nextOf (.ref i1) >>= _) _ _ _
  refine wpAny_bind (wpAny_nextOf_list_item (h1.extBut s1.extBut D.i1z) (hl1.extBut s1.extBut D.l1z) hx fun g2 n1 s2 => wpAny_pure (wpAny_pure ?_))
  dsimp only
  refine wpAny_bind (wpAny_bind (wpAny_holding ?_))
  change wpAny _ _ (Builtin.SmallTypes.nextOf (.ref i2) >>= _) _ _ _
  refine wpAny_bind (wpAny_nextOf_list_item ((h2.extBut s1.extBut D.i2z).extBut s2.extBut D.i12.symm) ((hl2.extBut s1.extBut D.l2z).extBut s2.extBut D.l2i1) hy fun g3 n2 s3 => wpAny_pure (wpAny_pure (wpAny_pure ?_)))
  refine wpAny_bind (wpAny_newTuple (hsz := by show 2 ≤ sizeLine; decide) (wpAny_pure ⟨_, rfl, ?_⟩))
  have sz : g3.objs.size = s.heap.objs.size := by rw [s3.1, s2.1, s1.1]
  have zz : ZAt g3 z TI TO (rawInt T) (.bool true) := s3.extBut _ _ D.i2z.symm (s2.extBut _ _ D.i1z.symm z1)
  have kk : ∀ c o, c ≠ z → c ≠ i1 → c ≠ i2 → s.heap.get? c = some o → g3.get? c = some o := fun c o a b d e => s3.extBut _ _ d (s2.extBut _ _ b (s1.extBut _ _ a e))
  have m1 := n1.extBut s3.extBut D.i12
  change Q (.ref g3.objs.size) _
  rw [sz]
  refine hQ _ (Heap.get?_push_of_some _ zz) (m1.at fun o e => Heap.get?_push_of_some _ e) (n2.at fun o e => Heap.get?_push_of_some _ e) ?_ ?_ fun c o a b d e => Heap.get?_push_of_some _ (kk c o a b d e)
  · rw [← sz]; exact Heap.get?_push_size _ rfl
  · rw [Heap.size_push, sz]
theorem more_end {Q : Fin → Shared → Prop} (hh : A.handled = none) (D : ZipApart z TI TO i1 i2 l1 l2) (hz : ZAt s.heap z TI TO (rawInt T) (.bool f)) (hT : s.heap.get? T = some oT) (hTI : IsPair s.heap TI (.ref i1) (.ref i2))
    (h1 : s.heap.IsListIter i1 l1 k1) (h2 : s.heap.IsListIter i2 l2 k2) (hl1 : s.heap.IsList l1 xs) (hl2 : s.heap.IsList l2 ys) (hend : xs[k1]? = none ∨ ys[k2]? = none)
    (hE : ∀ h' e, (∀ c o, c ≠ z → c ≠ i1 → c ≠ i2 → s.heap.get? c = some o → h'.get? c = some o) → (∃ o, h'.get? e = some o ∧ o.cls = .type "StopIteration") → E (.ref e) { s with heap := h' }) :
    wpAny (model prog w) A (Builtin.«zip.__next__» ⟨[.ref z], []⟩) Q E s := by
  change wpAny _ _ (field (.ref z) 2 >>= _) _ _ _
  refine wpAny_bind (wpAny_field hz rfl (x := .bool false) rfl ?_)
  change wpAny _ _ (field (.ref z) 3 >>= _) _ _ _
  refine wpAny_bind (wpAny_field hz rfl (x := .ref TI) rfl ?_)
  refine wpAny_bind (wpAny_seqItems hTI rfl ?_)
  change wpAny _ _ (Builtin.SmallTypes.ownedTupleIsFree (.ref z) >>= _) _ _ _
  refine wpAny_bind (busy hz hT fun g1 z1 s1 => ?_)
  simp only [Bool.false_eq_true, if_false]
  refine wpAny_bind ?_
  simp only [List.forIn_toArray, List.forIn_cons, List.forIn_nil]
  refine wpAny_bind (wpAny_bind (wpAny_holding ?_))
  change wpAny _ _ (Builtin.SmallTypes.nextOf (.ref i1) >>= _) _ _ _
  cases hx : xs[k1]? with
  | none =>
    exact wpAny_bind (wpAny_nextOf_list_end hh (h1.extBut s1.extBut D.i1z) (hl1.extBut s1.extBut D.l1z) hx fun g2 e s2 he => hE g2 e (fun c o a b _ q => s2 _ _ b (s1.extBut _ _ a q)) he)
  | some x =>
    have hy : ys[k2]? = none := hend.resolve_left fun h => by rw [hx] at h; cases h
    refine wpAny_bind (wpAny_nextOf_list_item (h1.extBut s1.extBut D.i1z) (hl1.extBut s1.extBut D.l1z) hx fun g2 n1 s2 => wpAny_pure (wpAny_pure ?_))
    dsimp only
    refine wpAny_bind (wpAny_bind (wpAny_holding ?_))
    change wpAny _ _ (Builtin.SmallTypes.nextOf (.ref i2) >>= _) _ _ _
    exact wpAny_bind (wpAny_nextOf_list_end hh ((h2.extBut s1.extBut D.i2z).extBut s2.extBut D.i12.symm) ((hl2.extBut s1.extBut D.l2z).extBut s2.extBut D.l2i1) hy fun g3 e s3 he =>
      hE g3 e (fun c o a b d q => s3 _ _ d (s2.extBut _ _ b (s1.extBut _ _ a q))) he)
/-- the zip, i pairs of it drawn; S is the list that takes them -/
structure ZSt (h : Heap) (z TI TO i1 i2 l1 l2 S : Addr) (xs ys : Array Value) (i : Nat) : Prop where
  at0 : ZAt h z TI TO .none (.bool false) ∨ ∃ (T : Addr) (f : Bool) (oT : Obj), ZAt h z TI TO (rawInt T) (.bool f) ∧ h.get? T = some oT ∧ T ≠ z ∧ T ≠ TO ∧ T ≠ i1 ∧ T ≠ i2 ∧ T ≠ S
  ti : IsPair h TI (.ref i1) (.ref i2)
  to : ∃ a b, IsPair h TO a b
  it1 : h.IsListIter i1 l1 i
  it2 : h.IsListIter i2 l2 i
  ls1 : h.IsList l1 xs
  ls2 : h.IsList l2 ys
theorem ZSt.keep {h h' : Heap} {S : Addr} {i : Nat} (q : ZSt h z TI TO i1 i2 l1 l2 S xs ys i) (k : ∀ c o, c ≠ S → h.get? c = some o → h'.get? c = some o) (hS : ∀ c ∈ [z, TI, TO, i1, i2, l1, l2], c ≠ S) : ZSt h' z TI TO i1 i2 l1 l2 S xs ys i where
  at0 := by
    have e := hS z (by simp)
    rcases q.at0 with a | ⟨T, f, oT, a, b, c⟩
    · exact .inl (k _ _ e a)
    · exact .inr ⟨T, f, oT, k _ _ e a, k _ _ c.2.2.2.2 b, c⟩
  ti := k _ _ (hS TI (by simp)) q.ti
  to := let ⟨a, b, e⟩ := q.to; ⟨a, b, k _ _ (hS TO (by simp)) e⟩
  it1 := q.it1.at fun o e => k _ o (hS i1 (by simp)) e
  it2 := q.it2.at fun o e => k _ o (hS i2 (by simp)) e
  ls1 := q.ls1.at fun o e => k _ o (hS l1 (by simp)) e
  ls2 := q.ls2.at fun o e => k _ o (hS l2 (by simp)) e
theorem st_item {S : Addr} {i : Nat} {Q : Option Value → Shared → Prop} (D : ZipApart z TI TO i1 i2 l1 l2) (q : ZSt s.heap z TI TO i1 i2 l1 l2 S xs ys i) (hS : S < s.heap.objs.size) (hx : xs[i]? = some x) (hy : ys[i]? = some y)
    (hQ : ∀ h', ZSt h' z TI TO i1 i2 l1 l2 S xs ys (i + 1) → IsPair h' s.heap.objs.size x y → h'.objs.size = s.heap.objs.size + 1 →
      (∀ c o, c ≠ z → c ≠ TO → c ≠ i1 → c ≠ i2 → s.heap.get? c = some o → h'.get? c = some o) → Q (some (.ref s.heap.objs.size)) { s with heap := h' }) :
    wpAny (model prog w) A (pyNext (.ref z)) Q E s := by
  have lt : ∀ {c o}, s.heap.get? c = some o → s.heap.objs.size ≠ c := fun e => Nat.ne_of_gt (Heap.lt_size e)
  obtain ⟨a, b, hTO⟩ := q.to
  have e1 : s.heap.objs.size ≠ i1 := by obtain ⟨_, e, _⟩ := q.it1; exact lt e
  have e2 : s.heap.objs.size ≠ i2 := by obtain ⟨_, e, _⟩ := q.it2; exact lt e
  rcases q.at0 with hz | ⟨T, f, oT, hz, hT, t1, t2, t3, t4, t5⟩
  · refine wpAny_pyNext_zip_item D hz q.ti hTO q.it1 q.it2 q.ls1 q.ls2 hx hy fun h' a1 a2 a3 a4 a5 a6 hk => hQ h' ⟨.inr ⟨_, false, _, a1, a5, lt hz, lt hTO, e1, e2, Nat.ne_of_gt hS⟩, ?_, ⟨_, _, a2⟩, a3, a4, ?_, ?_⟩ a5 a6 hk
    · exact hk _ _ D.TIz D.TITO D.TIi1 D.TIi2 q.ti
    · exact q.ls1.at fun o e => hk _ o D.l1z D.l1TO D.l1i1 D.l1i2 e
    · exact q.ls2.at fun o e => hk _ o D.l2z D.l2TO D.l2i1 D.l2i2 e
  · have ty : s.TypeIs (.ref z) "zip" := ⟨_, hz, rfl⟩
    unfold pyNext
    refine wpAny_bind (wpAny_attempt (wpAny_callSpecial?_slot (name := Str.ofString "__next__") ty F.slot_zip_next (wpAny_call_entry F.slot_zip_next ty F.entry_zip_next ?_ (F.args_zip_next_1 _))))
    refine more_item D hz hT q.ti q.it1 q.it2 q.ls1 q.ls2 hx hy fun h' a1 a3 a4 a5 a6 hk => wpAny_pure ?_
    refine hQ h' ⟨.inr ⟨T, true, oT, a1, hk _ _ t1 t3 t4 hT, t1, t2, t3, t4, t5⟩, ?_, ⟨a, b, ?_⟩, a3, a4, ?_, ?_⟩ a5 a6 fun c o c1 _ c3 c4 e => hk c o c1 c3 c4 e
    · exact hk _ _ D.TIz D.TIi1 D.TIi2 q.ti
    · exact hk _ _ D.TOz D.TOi1 D.TOi2 hTO
    · exact q.ls1.at fun o e => hk _ o D.l1z D.l1i1 D.l1i2 e
    · exact q.ls2.at fun o e => hk _ o D.l2z D.l2i1 D.l2i2 e
theorem st_done {S : Addr} {i : Nat} {Q : Option Value → Shared → Prop} (hh : A.handled = none) (D : ZipApart z TI TO i1 i2 l1 l2) (q : ZSt s.heap z TI TO i1 i2 l1 l2 S xs ys i) (hend : xs[i]? = none ∨ ys[i]? = none)
    (hQ : ∀ h', (∀ c o, c ≠ z → c ≠ TO → c ≠ i1 → c ≠ i2 → s.heap.get? c = some o → h'.get? c = some o) → Q none { s with heap := h' }) :
    wpAny (model prog w) A (pyNext (.ref z)) Q E s := by
  obtain ⟨a, b, hTO⟩ := q.to
  rcases q.at0 with hz | ⟨T, f, oT, hz, hT, t1, t2, t3, t4, t5⟩
  · exact wpAny_pyNext_zip_end hh D hz q.ti hTO q.it1 q.it2 q.ls1 q.ls2 hend hQ
  · have ty : s.TypeIs (.ref z) "zip" := ⟨_, hz, rfl⟩
    unfold pyNext
    refine wpAny_bind (wpAny_attempt (wpAny_callSpecial?_slot (name := Str.ofString "__next__") ty F.slot_zip_next (wpAny_call_entry F.slot_zip_next ty F.entry_zip_next ?_ (F.args_zip_next_1 _))))
    refine more_end hh D hz hT q.ti q.it1 q.it2 q.ls1 q.ls2 hend fun h' e hk he => ?_
    obtain ⟨o, ho, hc⟩ := he
    refine wpAny_bind (wpAny_isInstance (T := "StopIteration") (b := true) ⟨o, ho, hc⟩ isSubtype_stop ?_)
    exact wpAny_pure (hQ _ fun c o c1 _ c3 c4 e => hk c o c1 c3 c4 e)
end
theorem zip_no_len : typeLookup (.type "zip") "__len__" = pure none := by rw [typeLookup_type, builtinLookup_eq_fast]; kernel_rfl
theorem zip_no_hint : typeLookup (.type "zip") "__length_hint__" = pure none := by rw [typeLookup_type, builtinLookup_eq_fast]; kernel_rfl
section
variable {prog : Program} {w : World} {A : Around} {R : Result → Shared → Prop} {E : Value → Shared → Prop} {s : Shared} {z TI TO i1 i2 l1 l2 S : Addr} {xs ys : Array Value}
theorem hint {Q : Bool → Shared → Prop} (hT : s.TypeIs (.ref z) "zip") (h : Q true s) : wpAny (model prog w) A (Builtin.List.listLengthHint (.ref z)) Q E s := by
  unfold Builtin.List.listLengthHint
  refine wpAny_bind (wpAny_specialOf hT zip_no_len ?_)
  wp_delta
  refine wpAny_ite_split (fun z => absurd z (by decide)) fun _ => ?_
  refine wpAny_bind (wpAny_specialOf hT zip_no_hint ?_)
  exact wpAny_pure h
/-- the pairs that were made: rising addresses above lo -/
structure Made (h : Heap) (lo : Addr) (xs ys : Array Value) (as : List Addr) : Prop where
  rise : as.Pairwise (· < ·)
  above : ∀ a ∈ as, lo ≤ a
  pairs : ∀ (j : Nat) (a : Addr), as[j]? = some a → ∃ x y, xs[j]? = some x ∧ ys[j]? = some y ∧ IsPair h a x y
theorem Made.there {h : Heap} {lo : Addr} {as : List Addr} (g : Made h lo xs ys as) {a : Addr} (ha : a ∈ as) : a < h.objs.size := by
  obtain ⟨j, hj⟩ := List.mem_iff_getElem?.mp ha
  obtain ⟨_, _, _, _, e⟩ := g.pairs j a hj
  exact Heap.lt_size e
theorem Made.keep {h h' : Heap} {lo : Addr} {as : List Addr} (g : Made h lo xs ys as) (k : ∀ c o, lo ≤ c → h.get? c = some o → h'.get? c = some o) : Made h' lo xs ys as :=
  ⟨g.rise, g.above, fun j a e => by
    obtain ⟨x, y, e1, e2, e3⟩ := g.pairs j a e
    exact ⟨x, y, e1, e2, k a _ (g.above a (List.mem_of_getElem? e)) e3⟩⟩
theorem Made.more {h : Heap} {lo : Addr} {as : List Addr} {x y : Value} {b : Addr} (g : Made h lo xs ys as) (hb : IsPair h b x y) (up : ∀ a ∈ as, a < b) (hl : lo ≤ b) (hx : xs[as.length]? = some x) (hy : ys[as.length]? = some y) : Made h lo xs ys (as ++ [b]) := by
  refine ⟨List.pairwise_append.mpr ⟨g.rise, List.pairwise_singleton _ _, fun a ha c hc => by rw [List.mem_singleton.mp hc]; exact up a ha⟩, fun a ha => ?_, fun j a e => ?_⟩
  · rcases List.mem_append.mp ha with q | q
    · exact g.above a q
    · rw [List.mem_singleton.mp q]; exact hl
  · by_cases hj : j < as.length
    · rw [List.getElem?_append_left hj] at e
      exact g.pairs j a e
    · have hj' : j = as.length := by
        have := (List.getElem?_eq_some_iff.mp e).1
        rw [List.length_append, List.length_singleton] at this
        omega
      subst hj'
      have hba : b = a := by simpa using e
      subst hba
      exact ⟨x, y, hx, hy, hb⟩
theorem loop (hh : A.handled = none) (D : ZipApart z TI TO i1 i2 l1 l2) (hS : ∀ c ∈ [z, TI, TO, i1, i2, l1, l2], c ≠ S) (res : Value) (lo : Addr) (hlo : ∀ c ∈ [S, z, TI, TO, i1, i2], c < lo) (hn : xs.size ≤ sizeLine) {h₁ : Heap}
    (fin : ∀ h' tk acc c as, (∀ b o, b ∉ [S, z, TO, i1, i2] → h₁.get? b = some o → h'.get? b = some o) → h'.get? S = some { cls := .type "list", dict := none, data := .seq acc c, slots := #[] } → as.length = min xs.size ys.size → Made h' lo xs ys as →
      acc.toList = as.map Value.ref → R (.ok (.ret res)) { s with heap := h', toks := tk }) :
    ∀ (k i : Nat) (h : Heap) (tk c : Nat) (acc : Array Value) (as : List Addr), min xs.size ys.size - i = k → i ≤ min xs.size ys.size → ZSt h z TI TO i1 i2 l1 l2 S xs ys i → (∀ b o, b ∉ [S, z, TO, i1, i2] → h₁.get? b = some o → h.get? b = some o) →
      h.get? S = some { cls := .type "list", dict := none, data := .seq acc c, slots := #[] } → acc.toList = as.map Value.ref → as.length = i → Made h lo xs ys as → lo ≤ h.objs.size →
      codeAny (model prog w) A (.builtin "list.extend.loop" ⟨[.ref S, .ref z, res], []⟩) R { s with heap := h, toks := tk } := by
  have nb : ∀ {b : Addr}, b ∉ [S, z, TO, i1, i2] → b ≠ S ∧ b ≠ z ∧ b ≠ TO ∧ b ≠ i1 ∧ b ≠ i2 := fun q => by simpa [not_or] using q
  have nlo : ∀ {b : Addr}, lo ≤ b → b ≠ S ∧ b ≠ z ∧ b ≠ TO ∧ b ≠ i1 ∧ b ≠ i2 := fun q =>
    have f : ∀ c ∈ [S, z, TI, TO, i1, i2], _ := fun c hc => Nat.ne_of_gt (Nat.lt_of_lt_of_le (hlo c hc) q)
    ⟨f S (by simp), f z (by simp), f TO (by simp), f i1 (by simp), f i2 (by simp)⟩
  have Sn : S ≠ z ∧ S ≠ TO ∧ S ≠ i1 ∧ S ≠ i2 := ⟨(hS z (by simp)).symm, (hS TO (by simp)).symm, (hS i1 (by simp)).symm, (hS i2 (by simp)).symm⟩
  intro k
  induction k with
  | zero =>
    intro i h tk c acc as hk hi st kp hSo hacc hal G hsz
    have hend : xs[i]? = none ∨ ys[i]? = none := by
      have e : i = min xs.size ys.size := by omega
      rcases Nat.le_total xs.size ys.size with q | q
      · exact .inl (Array.getElem?_eq_none (by omega))
      · exact .inr (Array.getElem?_eq_none (by omega))
    refine codeAny_builtin PySem.F.entry_extend_loop ?_
    rw [Around.under_plainId PySem.F.plain_extend_loop _]
    change wpAny _ A.in1 (pyNext (.ref z) >>= _) _ _ _
    refine wpAny_bind (st_done (s := { s with heap := h, toks := tk }) (A := A.in1) hh D st hend fun h' he => ?_)
    exact wpAny_pure (fin h' tk acc c as (fun b o q e => he b o (nb q).2.1 (nb q).2.2.1 (nb q).2.2.2.1 (nb q).2.2.2.2 (kp b o q e)) (he S _ Sn.1 Sn.2.1 Sn.2.2.1 Sn.2.2.2 hSo) (by omega)
      (G.keep fun b o q e => he b o (nlo q).2.1 (nlo q).2.2.1 (nlo q).2.2.2.1 (nlo q).2.2.2.2 e) hacc)
  | succ k ih =>
    intro i h tk c acc as hk hi st kp hSo hacc hal G hsz
    have l1' : i < xs.size := by omega
    have l2' : i < ys.size := by omega
    have asz : acc.size = i := by rw [← Array.length_toList, hacc, List.length_map, hal]
    refine codeAny_builtin PySem.F.entry_extend_loop ?_
    rw [Around.under_plainId PySem.F.plain_extend_loop _]
    change wpAny _ A.in1 (pyNext (.ref z) >>= _) _ _ _
    refine wpAny_bind (st_item (s := { s with heap := h, toks := tk }) (A := A.in1) D st (Heap.lt_size hSo) (Array.getElem?_eq_getElem l1') (Array.getElem?_eq_getElem l2') fun h' st' ht hz hkp => ?_)
    dsimp only at ht hz hkp ⊢
    have hS' := hkp S _ Sn.1 Sn.2.1 Sn.2.2.1 Sn.2.2.2 hSo
    have up : ∀ b o, b ≠ S → h'.get? b = some o → (h'.update S (Obj.mapSeq (·.push (Value.ref h.objs.size)))).get? b = some o := fun b o hb e => (Heap.get?_update_other _ _ (Ne.symm hb)).trans e
    have hSl : S < h.objs.size := Heap.lt_size hSo
    change wpAny _ A.in1 (updateSeq S (·.push (Value.ref h.objs.size)) >>= _) _ _ _
    refine wpAny_bind ?_
    have G1 : Made (h'.update S (Obj.mapSeq (·.push (Value.ref h.objs.size)))) lo xs ys (as ++ [h.objs.size]) := by
      have g0 : Made (h'.update S (Obj.mapSeq (·.push (Value.ref h.objs.size)))) lo xs ys as := G.keep fun b o q e => up b o (nlo q).1 (hkp b o (nlo q).2.1 (nlo q).2.2.1 (nlo q).2.2.2.1 (nlo q).2.2.2.2 e)
      refine g0.more (up _ _ (Nat.ne_of_gt hSl) ht) (fun a ha => G.there ha) hsz ?_ ?_
      · rw [hal]; exact Array.getElem?_eq_getElem l1'
      · rw [hal]; exact Array.getElem?_eq_getElem l2'
    refine wpAny_updateSeq hS' rfl (wpAny_pure ⟨plainId_quiet PySem.F.plain_extend_loop _, ih (i + 1) _ tk _ (acc.push (Value.ref h.objs.size)) (as ++ [h.objs.size]) (by omega) (by omega) (st'.keep (fun c o q e => up c o q e) hS) (fun b o q e => up b o (nb q).1 (hkp b o (nb q).2.1 (nb q).2.2.1 (nb q).2.2.2.1 (nb q).2.2.2.2 (kp b o q e))) (Heap.get?_update_self _ hS' rfl) (by rw [Array.toList_push, hacc, List.map_append]; rfl) (by rw [List.length_append, hal]; rfl) G1 ?_⟩) (by rw [asz]; omega) (by show (acc.push (Value.ref h.objs.size)).size ≤ sizeLine + 1; rw [Array.size_push, asz]; omega)
    exact Nat.le_trans hsz (Nat.le_of_lt (Heap.lt_size (up _ _ (Nat.ne_of_gt hSl) ht)))
theorem extend (hh : A.handled = none) (D : ZipApart z TI TO i1 i2 l1 l2) (hS : ∀ c ∈ [z, TI, TO, i1, i2, l1, l2], c ≠ S) (res : Value) (hn : xs.size ≤ sizeLine) {c₀ : Nat} (st : ZSt s.heap z TI TO i1 i2 l1 l2 S xs ys 0) (hSo : s.heap.get? S = some { cls := .type "list", data := .seq #[] c₀ })
    (fin : ∀ h' tk acc c as, (∀ b o, b ∉ [S, z, TO, i1, i2] → s.heap.get? b = some o → h'.get? b = some o) → h'.get? S = some { cls := .type "list", dict := none, data := .seq acc c, slots := #[] } → as.length = min xs.size ys.size → Made h' s.heap.objs.size xs ys as →
      acc.toList = as.map Value.ref → R (.ok (.ret res)) { s with heap := h', toks := tk }) :
    wpAny (model prog w) A.in1 (Builtin.List.listExtendWith (.ref S) (.ref z) res)
      (fun fin s' => match fin with | .done f => R (.ok f) s' | .again c' => c'.quiet = true ∧ codeAny (model prog w) A c' R s') (fun e s' => R (.error e) s') s := by
  have zt : ∃ f0 f1, ZAt s.heap z TI TO f0 f1 := by
    rcases st.at0 with a | ⟨T, f, oT, a, _⟩
    · exact ⟨_, _, a⟩
    · exact ⟨_, _, a⟩
  obtain ⟨f0, f1, hz⟩ := zt
  obtain ⟨ta, tb, hTO⟩ := st.to
  have ty : s.TypeIs (.ref z) "zip" := ⟨_, hz, rfl⟩
  have hlo : ∀ c ∈ [S, z, TI, TO, i1, i2], c < s.heap.objs.size := fun c hc => by
    have a1 := Heap.lt_size hSo
    have a2 := Heap.lt_size hz
    have a3 := Heap.lt_size st.ti
    have a4 := Heap.lt_size hTO
    obtain ⟨_, e1, _⟩ := st.it1
    obtain ⟨_, e2, _⟩ := st.it2
    have a5 := Heap.lt_size e1
    have a6 := Heap.lt_size e2
    simp only [List.mem_cons, List.not_mem_nil, or_false] at hc
    rcases hc with rfl | rfl | rfl | rfl | rfl | rfl <;> assumption
  unfold Builtin.List.listExtendWith
  refine wpAny_bind (wpAny_typeOf ty ?_)
  have n1 : Builtin.List.listSameRef (.ref S) (.ref z) = false := by
    simp only [Builtin.List.listSameRef, beq_eq_false_iff_ne]
    exact (hS z (by simp)).symm
  have n2 : (Value.type "zip" == Value.type "list") = false := by decide
  have n3 : (Value.type "zip" == Value.type "tuple") = false := by decide
  simp only [n1, n2, n3, Bool.or_false, Bool.false_eq_true, if_false]
  have it : ∀ {Q : Value → Shared → Prop}, Q (.ref z) s → wpAny (model prog w) A.in1 (pyIter (.ref z)) Q (fun e s' => R (.error e) s') s := fun q => by
    refine wpAny_pyIter_slot ty F.slot_zip_iter (wpAny_call_entry F.slot_zip_iter ty F.entry_zip_iter ?_ (F.args_zip_iter_1 _))
    change wpAny _ _ (ret (.ref z)) _ _ s
    exact wpAny_pure ⟨_, rfl, "zip", _, ty, F.slot_zip_next.lookup, q⟩
  refine wpAny_bind (it ?_)
  refine wpAny_bind (wpAny_holding (hint ty ?_))
  simp only [Bool.true_or, if_true]
  refine wpAny_bind (wpAny_rule (wpAny_bind (m := Builtin.List.listTouch (.ref S)) ?_))
  change wpAny (model prog w) _ (updateSeq S (·.push .none) >>= fun _ => updateSeq S (·.pop)) _ _ _
  refine wpAny_bind (wpAny_updateSeq hSo rfl ?_)
  have u1 := Heap.get?_update_self (Obj.mapSeq (·.push Value.none)) hSo rfl
  refine wpAny_updateSeq (hz := by seq_fits) u1 rfl ?_
  have u2 := Heap.get?_update_self (Obj.mapSeq (·.pop)) u1 rfl
  have other : ∀ b ob, b ≠ S → s.heap.get? b = some ob → ((s.heap.update S (Obj.mapSeq (·.push Value.none))).update S (Obj.mapSeq (·.pop))).get? b = some ob := fun b ob q e => (Heap.get?_update_other _ _ (Ne.symm q)).trans ((Heap.get?_update_other _ _ (Ne.symm q)).trans e)
  refine wpAny_pure ⟨plainId_quiet PySem.F.plain_extend_loop _, ?_⟩
  exact loop (h₁ := s.heap) (s := s) hh D hS res s.heap.objs.size hlo hn fin _ 0 _ s.toks _ #[] [] rfl (Nat.zero_le _) (st.keep (fun c o q e => other c o q e) hS) (fun b o q e => other b o (fun e' => q (by rw [e']; exact List.mem_cons_self)) e) u2 rfl rfl
    ⟨List.Pairwise.nil, (fun _ ha => nomatch ha), fun j a hj => by simp at hj⟩ (by rw [Heap.size_update, Heap.size_update]; exact Nat.le_refl _)
/-- list(z), z a zip of two lists that nobody has drawn from -/
theorem call_list {Q : Value → Shared → Prop} (hh : A.handled = none) (D : ZipApart z TI TO i1 i2 l1 l2) (hn : xs.size ≤ sizeLine) (hz : IsZip s.heap z TI TO .none) (hTI : IsPair s.heap TI (.ref i1) (.ref i2)) {a b : Value} (hTO : IsPair s.heap TO a b)
    (h1 : s.heap.IsListIter i1 l1 0) (h2 : s.heap.IsListIter i2 l2 0) (hl1 : s.heap.IsList l1 xs) (hl2 : s.heap.IsList l2 ys)
    (fin : ∀ h' tk acc c as, (∀ b o, b ∉ [z, TO, i1, i2] → s.heap.get? b = some o → h'.get? b = some o) → h'.get? s.heap.objs.size = some { cls := .type "list", dict := none, data := .seq acc c, slots := #[] } → as.length = min xs.size ys.size → Made h' (s.heap.objs.size + 1) xs ys as →
      acc.toList = as.map Value.ref → Q (.ref s.heap.objs.size) { s with heap := h', toks := tk }) :
    wpAny (model prog w) A (call (.type "list") [.ref z]) Q E s := by
  have lt : ∀ {c o}, s.heap.get? c = some o → c ≠ s.heap.objs.size := fun e => Nat.ne_of_lt (Heap.lt_size e)
  have pu : ∀ {c o}, s.heap.get? c = some o → (s.heap.push { cls := .type "list", data := .seq #[] }).get? c = some o := fun e => Heap.get?_push_of_some _ e
  have hS : ∀ c ∈ [z, TI, TO, i1, i2, l1, l2], c ≠ s.heap.objs.size := fun c hc => by
    obtain ⟨_, e1, _⟩ := id h1
    obtain ⟨_, e2, _⟩ := id h2
    obtain ⟨_, e3, _⟩ := id hl1
    obtain ⟨_, e4, _⟩ := id hl2
    simp only [List.mem_cons, List.not_mem_nil, or_false] at hc
    rcases hc with rfl | rfl | rfl | rfl | rfl | rfl | rfl
    · exact lt hz
    · exact lt hTI
    · exact lt hTO
    · exact lt e1
    · exact lt e2
    · exact lt e3
    · exact lt e4
  refine callType_codes (Q₁ := fun obj s₁ => obj = .ref s.heap.objs.size ∧ s₁ = { s with heap := s.heap.push { cls := .type "list", data := .seq #[] } }) PySem.F.called_list (PySem.F.typeCall_list_1 _) PySem.F.entry_list_init
    (code_list_new _ ⟨rfl, rfl⟩) fun obj s₁ q => ?_
  obtain ⟨rfl, rfl⟩ := q
  have at1 : (s.heap.push { cls := .type "list", data := .seq #[] }).get? s.heap.objs.size = some { cls := .type "list", data := .seq #[] } := Heap.get?_push_size _ rfl
  refine ⟨⟨_, at1, rfl⟩, PySem.F.args_list_init_2 _ _, ?_⟩
  change wpAny _ _ (do let old ← Builtin.List.listItems (.ref s.heap.objs.size); Builtin.List.listUpdate (.ref s.heap.objs.size) (fun _ => #[]); letGo old.toList.reverse; Builtin.List.listExtendWith (.ref s.heap.objs.size) (.ref z) .none) _ _ _
  refine wpAny_bind ?_
  unfold Builtin.List.listItems
  refine wpAny_bind (wpAny_seqItems at1 rfl (wpAny_pure ?_))
  change wpAny _ _ (updateSeq s.heap.objs.size (fun _ => #[]) >>= fun _ => letGo (#[] : Array Value).toList.reverse >>= fun _ => Builtin.List.listExtendWith (.ref s.heap.objs.size) (.ref z) .none) _ _ _
  refine wpAny_bind (wpAny_updateSeq at1 rfl ?_)
  have at2 := Heap.get?_update_self (Obj.mapSeq (fun _ => (#[] : Array Value))) at1 rfl
  have oth : ∀ b o, s.heap.get? b = some o → ((s.heap.push { cls := .type "list", data := .seq #[] }).update s.heap.objs.size (Obj.mapSeq (fun _ => (#[] : Array Value)))).get? b = some o :=
    fun b o e => (Heap.get?_update_other _ _ (Ne.symm (lt e))).trans (pu e)
  refine wpAny_bind (wpAny_letGo ?_)
  refine extend (A := A.in1) hh D hS .none hn ⟨.inl (oth _ _ hz), oth _ _ hTI, ⟨a, b, oth _ _ hTO⟩, h1.at fun o e => oth _ o e, h2.at fun o e => oth _ o e, hl1.at fun o e => oth _ o e, hl2.at fun o e => oth _ o e⟩ at2 fun h' tk acc c as k1 k2 k3 k4 k5 => ?_
  refine ⟨rfl, fin h' tk acc c as (fun b o q e => k1 b o (fun m => ?_) (oth b o e)) k2 k3 ?_ k5⟩
  · rcases List.mem_cons.mp m with m | m
    · exact lt e m
    · exact q m
  · have e : ((s.heap.push { cls := .type "list", data := .seq #[] }).update s.heap.objs.size (Obj.mapSeq (fun _ => (#[] : Array Value)))).objs.size = s.heap.objs.size + 1 := by rw [Heap.size_update, Heap.size_push]
    rw [← e]; exact k4
end
end ZipL
set_option Elab.async false
set_option linter.all false
set_option maxRecDepth 100000
namespace L2
open PySem PySem.Spec PyProof.Rows
section
variable {X : Cx} {pins : List (Addr × Obj)} {σ : St} {H H' : Hp} {s : Shared} {h' : Heap}
/-- things are laid behind the heap; all that was there stays -/
theorem Inv.lays {t' : Nat} (I : Inv X pins σ H s) (k : ∀ b u, s.heap.get? b = some u → h'.get? b = some u) (old : ∀ b, b < s.heap.objs.size → H' b = H b)
    (new : ∀ b o, s.heap.objs.size ≤ b → H' b = some o → ObjOk X.prog X.w H' h' b o) : Inv X pins σ H' { s with heap := h', toks := t' } := by
  have up : ∀ b o, H b = some o → H' b = some o := fun b o e => by rw [old b (I.hok.lt e)]; exact e
  refine I.un ⟨fun b o e _ _ _ => k b o e, fun b o e _ _ _ => ⟨o.slots, k b o e⟩, fun b o e n _ => by rw [old b (Heap.lt_size e)]; exact n, fun b o e _ => ⟨o, k b o e⟩, fun b xs e => up b _ e, fun b o u e => up b _ e, fun b ps e => ⟨#[], by rw [up b _ e]; simp⟩⟩ fun b o e => ?_
  by_cases hb : b < s.heap.objs.size
  · rw [old b hb] at e
    exact (I.hok b o e).stay (fun c u _ q => k c u q) (fun c q => up c _ q) fun c xs q => up c _ q
  · exact new b o (Nat.le_of_not_lt hb) e
end
/-- two lists' pairs, as tuples at the addresses as -/
def AtPairs (H : Hp) : List Addr → List V → List V → Prop
  | [], xs, ys => xs = [] ∨ ys = []
  | a :: as, xs, ys => ∃ x xr y yr, xs = x :: xr ∧ ys = y :: yr ∧ H a = some (.tup [x, y]) ∧ AtPairs H as xr yr
theorem AtPairs.of {H : Hp} : ∀ {as : List Addr} {xs ys : List V}, as.length = min xs.length ys.length → (∀ (j : Nat) (a : Addr), as[j]? = some a → ∃ x y, xs[j]? = some x ∧ ys[j]? = some y ∧ H a = some (.tup [x, y])) → AtPairs H as xs ys
  | [], xs, ys, hl, _ => by
    cases xs with
    | nil => exact .inl rfl
    | cons x xr =>
      cases ys with
      | nil => exact .inr rfl
      | cons y yr => simp at hl
  | a :: as, xs, ys, hl, h => by
    cases xs with
    | nil => simp at hl
    | cons x xr =>
      cases ys with
      | nil => simp at hl
      | cons y yr =>
        obtain ⟨x', y', e1, e2, e3⟩ := h 0 a rfl
        simp only [List.getElem?_cons_zero, Option.some.injEq] at e1 e2
        subst e1 e2
        refine ⟨x, xr, y, yr, rfl, rfl, e3, AtPairs.of (by simp only [List.length_cons] at hl; omega) fun j b e => ?_⟩
        obtain ⟨x'', y'', q1, q2, q3⟩ := h (j + 1) b (by simpa using e)
        exact ⟨x'', y'', by simpa using q1, by simpa using q2, q3⟩
/-- the addresses' pairs, as a heap -/
def layP (H : Hp) (n : Nat) (l : Addr) (as : List Addr) (xs ys : List V) : Hp := fun b =>
  if b < n then H b else if b = l then some (.lst (as.map V.ref)) else if b ∈ as then some (.tup [xs.getD (as.idxOf b) .non, ys.getD (as.idxOf b) .non]) else none
theorem same_ix {as : List Addr} {i j : Nat} {c : Addr} (r : as.Pairwise (· < ·)) (h : as[i]? = some c) (h' : as[j]? = some c) : i = j := by
  obtain ⟨h1, e1⟩ := List.getElem?_eq_some_iff.mp h
  obtain ⟨h2, e2⟩ := List.getElem?_eq_some_iff.mp h'
  have q := List.pairwise_iff_getElem.mp r
  rcases Nat.lt_trichotomy i j with z | z | z
  · have := q i j h1 h2 z
    rw [e1, e2] at this
    exact absurd this (Nat.lt_irrefl _)
  · exact z
  · have := q j i h2 h1 z
    rw [e1, e2] at this
    exact absurd this (Nat.lt_irrefl _)
theorem ix_same {as : List Addr} {j : Nat} {c : Addr} (r : as.Pairwise (· < ·)) (h : as[j]? = some c) : as.idxOf c = j := by
  have m : c ∈ as := List.mem_of_getElem? h
  have hl := List.idxOf_lt_length_of_mem m
  exact same_ix r (by rw [List.getElem?_eq_getElem hl, List.getElem_idxOf hl]) h
theorem vals_at : ∀ {xs : List V} {us : List Value} {j : Nat} {u : Value}, Vals xs us → us[j]? = some u → RelV (xs.getD j .non) u
  | _, _, _, _, .nil, e => by simp at e
  | _, _, 0, _, .cons r _, e => by simp at e; subst e; exact r
  | _, _, j + 1, _, .cons _ t, e => by
    have := vals_at (j := j) t (by simpa using e)
    simpa using this
theorem vals_refs : ∀ as : List Addr, Vals (as.map V.ref) (as.map Value.ref)
  | [] => .nil
  | a :: as => .cons rfl (vals_refs as)
def tZip (K : PySem.W.Frag) (t : TA) : TE := fun σ H Q => t σ H fun vs H1 => ∃ p q xs ys, vs = [.ref p, .ref q] ∧ SqL K H1 p xs ∧ SqL K H1 q ys ∧
  ∀ (l : Addr) (as : List Addr) (H' : Hp), H1 l = none → Same H1 H' → H' l = some (.lst (as.map V.ref)) → AtPairs H' as xs ys → Q (.ref l) H'
section
variable {X : Cx} {x y : Str} {p p2 pos pos2 : Pos} {a b : Expr} {t : TA}
/-- list(zip(a, b)), two lists -/
theorem pe_listZip (hc : X.calm = true) (hg : Gl X "list") (hm : X.mg "list" = none) (hgz : Gl X "zip") (hmz : X.mg "zip" = none) (ha : PA X [a, b] t)
    (he : starEach [.Call (.Name "zip" p2) [a, b] [] pos2] X.env = [(false, eval (.Call (.Name "zip" p2) [a, b] [] pos2) X.env)] := by rfl)
    (he2 : starEach [a, b] X.env = (false, eval a X.env) :: starEach [b] X.env := by rfl) (hpl : (backTo pos2 (starEach [b] X.env)).any (·.1) = false := by rfl) :
    PE X (.Call (.Name "list" p) [.Call (.Name "zip" p2) [a, b] [] pos2] [] pos) (tZip X.K t) := by
  intro pins s σ H Q I h
  refine wpAny_Call_Name_kw (ld_blt I hg hm (by decide +kernel : bootBuiltins "list" = some (.type "list")) ?_ (by decide) (by decide))
  refine PyProof.Rows.callWith_type1 ?_ he rfl
  rw [he]
  change wpAny _ _ (spliced ((false, eval (.Call (.Name "zip" p2) [a, b] [] pos2) X.env) :: [])) _ _ s
  refine Calls.spliced_cons ?_
  refine wpAny_Call_Name_kw (ld_blt I hgz hmz (by decide +kernel : bootBuiltins "zip" = some (.type "zip")) ?_ (by decide) (by decide))
  refine PyProof.Rows.callWith_type1 (thn (ha pos2 pins s σ H _ I h) fun us s1 ⟨vs, H1, I1, r1, q1⟩ => ?_) he2 hpl
  obtain ⟨l1, l2, xs, ys, rfl, hx, hy, q⟩ := q1
  obtain ⟨u1, u2, rfl, e1, e2⟩ := vals2 r1
  cases e1
  cases e2
  obtain ⟨is1, v1, pl1, z1⟩ := I1.list hx
  obtain ⟨is2, v2, pl2, z2⟩ := I1.list hy
  have n1 : l1 < s1.heap.objs.size := by obtain ⟨_, e, _⟩ := pl1.isList; exact Heap.lt_size e
  have n2 : l2 < s1.heap.objs.size := by obtain ⟨_, e, _⟩ := pl2.isList; exact Heap.lt_size e
  refine call_zip_2 pl1.isList pl2.isList fun h2 b1 b2 b3 b4 b5 b6 k2 => ?_
  refine Calls.spliced_nil ?_
  refine ZipL.call_list (s := { s1 with heap := h2 }) (I1.ok.hd hc) (zipApart_new n1 n2) (by rw [List.size_toArray, ← v1.length]; exact z1) b1 b2 b3 b4 b5 (pl1.isList.at fun o e => k2 _ o e) (pl2.isList.at fun o e => k2 _ o e) fun h3 tk acc cc as k3 at3 al mk hacc => ?_
  dsimp only at at3 mk k3
  rw [b6] at at3 mk
  have kk : ∀ c o, s1.heap.get? c = some o → h3.get? c = some o := fun c o e => by
    refine k3 c o (fun m => ?_) (k2 c o e)
    simp only [List.mem_cons, List.not_mem_nil, or_false] at m
    rcases m with m | m | m | m
    · exact Nat.ne_of_lt (Nat.lt_of_lt_of_le (Heap.lt_size e) (Nat.le_add_right _ _)) m
    · exact Nat.ne_of_lt (Nat.lt_of_lt_of_le (Heap.lt_size e) (Nat.le_add_right _ _)) m
    · exact Nat.ne_of_lt (Heap.lt_size e) m
    · exact Nat.ne_of_lt (Nat.lt_of_lt_of_le (Heap.lt_size e) (Nat.le_add_right _ _)) m
  have lz : as.length ≤ sizeLine := by
    rw [al]
    exact Nat.le_trans (Nat.min_le_left _ _) (by rw [List.size_toArray, ← v1.length]; exact z1)
  have new : ∀ c o, s1.heap.objs.size ≤ c → layP H1 s1.heap.objs.size (s1.heap.objs.size + 5) as xs ys c = some o → ObjOk X.prog X.w (layP H1 s1.heap.objs.size (s1.heap.objs.size + 5) as xs ys) h3 c o := fun c o hc' e => by
    unfold layP at e
    rw [if_neg (Nat.not_lt_of_le hc')] at e
    by_cases hl : c = s1.heap.objs.size + 5
    · rw [if_pos hl] at e
      cases e
      refine ⟨by rw [List.length_map]; exact lz, acc.toList, cc, ?_, ?_⟩
      · rw [hacc]
        exact vals_refs as
      · rw [hl]
        exact at3
    · rw [if_neg hl] at e
      by_cases hm' : c ∈ as
      · rw [if_pos hm'] at e
        cases e
        obtain ⟨j, hj⟩ := List.mem_iff_getElem?.mp hm'
        obtain ⟨x, y, g1, g2, g3⟩ := mk.pairs j c hj
        rw [ix_same mk.rise hj]
        refine ⟨by show 2 ≤ sizeLine; decide, [x, y], .cons (vals_at v1 (by simpa using g1)) (.cons (vals_at v2 (by simpa using g2)) .nil), ⟨_, g3, rfl, _, rfl⟩⟩
      · rw [if_neg hm'] at e
        cases e
  have J := I1.lays (H' := layP H1 s1.heap.objs.size (s1.heap.objs.size + 5) as xs ys) (t' := tk) kk (fun c hc' => by unfold layP; rw [if_pos hc']) new
  have nl : ¬ (s1.heap.objs.size + 5 < s1.heap.objs.size) := Nat.not_lt_of_le (Nat.le_add_right _ _)
  refine ⟨.ref (s1.heap.objs.size + 5), _, J, by rw [b6]; rfl, q _ as _ (I1.hok.fresh (Nat.le_add_right _ _)) (fun c o e => ?_) ?_ (AtPairs.of ?_ fun j a hj => ?_)⟩
  · unfold layP
    rw [if_pos (I1.hok.lt e)]
    exact e
  · unfold layP
    rw [if_neg nl, if_pos rfl]
  · rw [al, List.size_toArray, List.size_toArray, v1.length, v2.length]
  · have ab := mk.above a (List.mem_of_getElem? hj)
    obtain ⟨x, y, g1, g2, g3⟩ := mk.pairs j a hj
    have c1 : j < xs.length := by rw [v1.length]; have := (Array.getElem?_eq_some_iff.mp g1).1; simpa using this
    have c2 : j < ys.length := by rw [v2.length]; have := (Array.getElem?_eq_some_iff.mp g2).1; simpa using this
    refine ⟨xs[j], ys[j], List.getElem?_eq_getElem c1, List.getElem?_eq_getElem c2, ?_⟩
    unfold layP
    have a1 : s1.heap.objs.size + 5 < a := Nat.lt_of_lt_of_le (Nat.lt_succ_self _) ab
    rw [if_neg (Nat.not_lt_of_le (Nat.le_trans (Nat.le_add_right _ _) (Nat.le_of_lt a1))), if_neg (Nat.ne_of_gt a1), if_pos (List.mem_of_getElem? hj), ix_same mk.rise hj, List.getD_eq_getElem?_getD, List.getD_eq_getElem?_getD, List.getElem?_eq_getElem c1, List.getElem?_eq_getElem c2]
    rfl
/-- sum(l), a list of ints -/
theorem call_sumI (hc : X.calm = true) : CallR X (.builtin "sum") (fun xs H Q => ∃ (p : Addr) (ns : List Int), xs = [.ref p] ∧ SqL X.K H p (ns.map V.int) ∧ Q (.int ns.sum) H) := by
  intro pins s σ H xs us Q I r h
  obtain ⟨p, ns, rfl, hq, q⟩ := h
  obtain ⟨u, rfl, rx⟩ := vals1 r
  cases rx
  obtain ⟨its, rv, pl, hz⟩ := I.list hq
  have hi := intsAre_of rv
  obtain ⟨zs, e⟩ := hi.allInts.items
  have en : (zs.toList.map (·.1)) = ns := by
    have a := hi.numsOf
    have b := nums_intItems zs
    rw [← e] at b
    exact b.symm.trans a
  refine sum_intListG (xs := zs) (I.ok.hd hc) (by rw [← e]; exact pl.isList) fun h' tk t' hk => ?_
  rw [preSum_eq, List.take_of_length_le (by simp), en]
  exact ⟨.int ns.sum, H, I.kept hk, ⟨t', rfl⟩, q⟩
theorem strsAre_of {ss : List Str} : ∀ {us : List Value}, Vals (ss.map V.str) us → StrsAre us ss := by
  induction ss with
  | nil => intro us r; cases r; exact .nil
  | cons x xs ih =>
    intro us r
    cases r with
    | cons e t =>
      obtain ⟨tk, rfl⟩ := e
      exact .cons x tk (ih t)
/-- sep.join(l), a list of texts -/
def rJoin (K : PySem.W.Frag) : V → List V → Hp → VK → Prop := fun x vs H Q => ∃ (sep : Str) (p : Addr) (ss : List Str), x = .str sep ∧ vs = [.ref p] ∧ SqL K H p (ss.map V.str) ∧ (ss.map (·.length)).sum + ss.length * sep.length ≤ 16777216 ∧ Q (.str (Txt.join sep ss)) H
theorem mt_join : MtM X "str.join" (rJoin X.K) := by
  intro pins s σ H x vs v us Q I rx rv h
  obtain ⟨sep, p, ss, rfl, rfl, hq, hz, q⟩ := h
  obtain ⟨t, rfl⟩ := rx
  obtain ⟨u, rfl, ru⟩ := rv.one
  cases ru
  obtain ⟨its, r, pl, _⟩ := I.list hq
  exact join_list pl.isList (strsAre_of r) hz fun t' k => ⟨.str _, H, I.tok _, ⟨t', rfl⟩, q⟩
end
end L2
set_option Elab.async false
set_option linter.all false
set_option maxRecDepth 100000
namespace L2
open PySem PySem.Spec PyProof.Rows
/-! ### a def of the module, by its promise -/
def Fn (P : Program) (w : World) (K : PySem.W.Frag) (mg : Str → Option Value) (base : Heap) (k : Nat) (x : Str) (ps : List Str) (sp : Sp) : Prop :=
  ∃ f fd, FnOk P w K mg base CX0 k f fd ps sp ∧ Binds K fd ps [] ∧ PySem.W.keepIn K (.ref f) = true ∧ mg x = some (.ref f)
section
variable {X : Cx} {k : Nat} {x : Str} {ps : List Str} {sp : Sp} {p pos : Pos} {e : Expr} {es : List Expr} {t : TA}
theorem pe_callF (G : Fn X.prog X.w X.K X.mg X.base k x ps sp) (hr : Room k X.A) (hg : Gl X x) (ha : PA X (e :: es) t) (hdb : (x == ("__debug__" : Str)) = false := by decide)
    (he : starEach (e :: es) X.env = (false, eval e X.env) :: starEach es X.env := by rfl) (hpl : (backTo pos (starEach es X.env)).any (·.1) = false := by rfl) :
    PE X (.Call (.Name x p) (e :: es) [] pos) (tCall sp [] E0 t) := by
  obtain ⟨f, fd, F, b, kp, m⟩ := G
  exact pe_call F hr hg m kp b .nil pass0 ha hdb he hpl
theorem FnOk.any {P : Program} {w : World} {K : PySem.W.Frag} {mg : Str → Option Value} {base : Heap} {CX : CXT} {k : Nat} {f : Addr} {fd : FuncData} {ps : List Str} {ι : Type} {C : ι → Prop} {sp : ι → Sp} (h : ∀ i, C i → FnOk P w K mg base CX k f fd ps (sp i)) :
    FnOk P w K mg base CX k f fd ps (fun vs H Q E => ∃ i, C i ∧ sp i vs H Q E) :=
  ⟨fun vs H Q E ⟨i, c, q⟩ => (h i c).len vs H Q E q, fun A outer s H args us vs Q E hr he hb hv ⟨i, c, q⟩ => (h i c).run A outer s H args us vs Q E hr he hb hv q⟩
end
/-! ### heaps: what the tuples say stays -/
def Up (K : PySem.W.Frag) (H H' : Hp) : Prop := ∀ a xs, SqT K H a xs → SqT K H' a xs
theorem Up.refl {K : PySem.W.Frag} (H : Hp) : Up K H H := fun _ _ h => h
theorem Up.trans {K : PySem.W.Frag} {H H1 H2 : Hp} (a : Up K H H1) (b : Up K H1 H2) : Up K H H2 := fun c xs h => b c xs (a c xs h)
theorem Same.up {K : PySem.W.Frag} {H H' : Hp} (e : Same H H') : Up K H H' := fun a xs h => by
  rcases h with (h | ⟨o, h⟩) | h
  · exact .inl (.inl (e _ _ h))
  · exact .inl (.inr ⟨o, e _ _ h⟩)
  · exact .inr h
theorem Same.put {H H1 : Hp} {p : Addr} {o : HO} (e : Same H H1) (h : H p = none) : Same H (upd H1 p o) := fun b u q => by
  rw [upd_ne (ne_of_none q h)]; exact e b u q
mutual
def noL : D → Bool
  | .tup xs => noLs xs
  | .lst _ => false
  | _ => true
def noLs : List D → Bool
  | [] => true
  | d :: ds => noL d && noLs ds
end
mutual
theorem IsD.up {K : PySem.W.Frag} {H H' : Hp} (u : Up K H H') : ∀ (d : D) (v : V), noL d = true → IsD K H d v → IsD K H' d v
  | .non, v, _, h => h
  | .bl b, v, _, h => h
  | .int i, v, _, h => h
  | .str x, v, _, h => h
  | .tup ds, v, n, h => by
    obtain ⟨a, vs, e, q, r⟩ := h
    exact ⟨a, vs, e, u a vs q, AreD.up u ds vs (by simpa [noL] using n) r⟩
  | .lst ds, v, n, h => by simp [noL] at n
theorem AreD.up {K : PySem.W.Frag} {H H' : Hp} (u : Up K H H') : ∀ (ds : List D) (vs : List V), noLs ds = true → AreD K H ds vs → AreD K H' ds vs
  | [], vs, _, h => h
  | d :: ds, vs, n, h => by
    obtain ⟨v, r, e, q, t⟩ := h
    have n' : noL d = true ∧ noLs ds = true := by simpa [noLs] using n
    exact ⟨v, r, e, IsD.up u d v n'.1 q, AreD.up u ds r n'.2 t⟩
end
theorem noLs_all : ∀ {ds : List D}, (∀ d ∈ ds, noL d = true) → noLs ds = true
  | [], _ => rfl
  | d :: ds, h => by
    simp only [noLs, Bool.and_eq_true]
    exact ⟨h d List.mem_cons_self, noLs_all fun e m => h e (List.mem_cons_of_mem _ m)⟩
theorem noLs_mem : ∀ {ds : List D} {d : D}, noLs ds = true → d ∈ ds → noL d = true
  | e :: ds, d, h, m => by
    have h' : noL e = true ∧ noLs ds = true := by simpa [noLs] using h
    rcases List.mem_cons.mp m with rfl | m
    · exact h'.1
    · exact noLs_mem h'.2 m
theorem AreD.append {K : PySem.W.Frag} {H : Hp} : ∀ {ds es : List D} {vs ws : List V}, AreD K H ds vs → AreD K H es ws → AreD K H (ds ++ es) (vs ++ ws)
  | [], es, vs, ws, h, h' => by
    have e : vs = [] := h
    subst e
    exact h'
  | d :: ds, es, vs, ws, h, h' => by
    obtain ⟨v, r, e, q, t⟩ := h
    subst e
    exact ⟨v, r ++ ws, rfl, q, AreD.append t h'⟩
theorem AreD.one {K : PySem.W.Frag} {H : Hp} {d : D} {v : V} (h : IsD K H d v) : AreD K H [d] [v] := ⟨v, [], rfl, h, rfl⟩
theorem AreD.two {K : PySem.W.Frag} {H : Hp} {d e : D} {v u : V} (h : IsD K H d v) (h' : IsD K H e u) : AreD K H [d, e] [v, u] := ⟨v, [u], rfl, h, u, [], rfl, h', rfl⟩
theorem AreD.take {K : PySem.W.Frag} {H : Hp} : ∀ {ds : List D} {vs : List V} (n : Nat), AreD K H ds vs → AreD K H (ds.take n) (vs.take n)
  | ds, vs, 0, _ => rfl
  | [], vs, n + 1, h => by
    have e : vs = [] := h
    subst e
    rfl
  | d :: ds, vs, n + 1, h => by
    obtain ⟨v, r, e, q, t⟩ := h
    subst e
    exact ⟨v, r.take n, rfl, q, AreD.take n t⟩
/-- the pairs' data -/
def pairsD : List D → List D → List D
  | a :: as, b :: bs => .tup [a, b] :: pairsD as bs
  | _, _ => []
theorem AreD.pairs {K : PySem.W.Frag} {H : Hp} : ∀ {as : List Addr} {xs ys : List V} {ds es : List D}, AtPairs H as xs ys → AreD K H ds xs → AreD K H es ys → AreD K H (pairsD ds es) (as.map V.ref)
  | [], xs, ys, ds, es, h, h1, h2 => by
    rcases (show xs = [] ∨ ys = [] from h) with e | e
    · subst e
      cases ds with
      | nil => rfl
      | cons d ds => obtain ⟨_, _, e, _⟩ := h1; cases e
    · subst e
      cases es with
      | nil => cases ds <;> rfl
      | cons d es => obtain ⟨_, _, e, _⟩ := h2; cases e
  | a :: as, xs, ys, ds, es, h, h1, h2 => by
    obtain ⟨x, xr, y, yr, rfl, rfl, ha, ht⟩ := h
    cases ds with
    | nil => cases (show x :: xr = [] from h1)
    | cons d ds =>
      cases es with
      | nil => cases (show y :: yr = [] from h2)
      | cons e es =>
        obtain ⟨_, _, q, i1, t1⟩ := h1
        cases q
        obtain ⟨_, _, q, i2, t2⟩ := h2
        cases q
        exact ⟨.ref a, as.map V.ref, rfl, ⟨a, _, rfl, SqT.of ha, AreD.two i1 i2⟩, AreD.pairs ht t1 t2⟩
/-- the drawing's state -/
def Feed (H : Hp) (l : Addr) : Prop := ∃ a b c d : Int, H l = some (.lst [.int a, .int b, .int c, .int d])
structure Step (l : Addr) (H H' : Hp) : Prop where
  keep : ∀ x o, x ≠ l → H x = some o → H' x = some o
  feed : Feed H' l
theorem Step.refl {l : Addr} {H : Hp} (f : Feed H l) : Step l H H := ⟨fun _ _ _ h => h, f⟩
theorem Step.trans {l : Addr} {H H1 H2 : Hp} (a : Step l H H1) (b : Step l H1 H2) : Step l H H2 := ⟨fun x o n h => b.keep x o n (a.keep x o n h), b.feed⟩
theorem Step.free {l : Addr} {H H' : Hp} (a : Step l H H') (f : Feed H l) {p : Addr} (h : H' p = none) : H p = none := by
  cases q : H p with
  | none => rfl
  | some o =>
    by_cases e : p = l
    · obtain ⟨_, _, _, _, z⟩ := a.feed
      rw [e, z] at h
      cases h
    · rw [a.keep p o e q] at h
      cases h
theorem Feed.put {l p : Addr} {H : Hp} {o : HO} (f : Feed H l) (h : p ≠ l) : Feed (upd H p o) l := by
  obtain ⟨a, b, c, d, e⟩ := f
  exact ⟨a, b, c, d, by rw [upd_ne h.symm]; exact e⟩
theorem Feed.ne {l p : Addr} {H : Hp} (f : Feed H l) (h : H p = none) : p ≠ l := fun e => by
  obtain ⟨a, b, c, d, q⟩ := f
  rw [e, q] at h
  cases h
/-- a thing that is not of the start is laid, or written -/
theorem Step.put {l p : Addr} {H H' : Hp} {o : HO} (a : Step l H H') (n : p ≠ l) (h : H p = none) : Step l H (upd H' p o) :=
  ⟨fun x u q e => by rw [upd_ne (ne_of_none e h)]; exact a.keep x u q e, a.feed.put n⟩
theorem Step.lay {l p : Addr} {H H' : Hp} {o : HO} (a : Step l H H') (f : Feed H l) (h : H' p = none) : Step l H (upd H' p o) := a.put (a.feed.ne h) (a.free f h)
theorem Step.same {l : Addr} {H H1 H2 : Hp} (a : Step l H H1) (b : Same H1 H2) : Step l H H2 :=
  ⟨fun x o n h => b _ _ (a.keep x o n h), let ⟨x, y, z, u, e⟩ := a.feed; ⟨x, y, z, u, b _ _ e⟩⟩
theorem Step.up {K : PySem.W.Frag} {l : Addr} {H H' : Hp} (a : Step l H H') (f : Feed H l) : Up K H H' := fun c xs h => by
  have ne : ∀ o, H c = some o → (∀ ys, o ≠ .lst ys) → c ≠ l := fun o e n q => by
    obtain ⟨_, _, _, _, z⟩ := f
    rw [q, z] at e
    cases e
    exact n _ rfl
  rcases h with (h | ⟨o, h⟩) | h
  · exact .inl (.inl (a.keep _ _ (ne _ h fun _ z => nomatch z) h))
  · exact .inl (.inr ⟨o, a.keep _ _ (ne _ h fun _ z => nomatch z) h⟩)
  · exact .inr h
theorem up_put {K : PySem.W.Frag} {H : Hp} {p : Addr} {o : HO} (h : H p = none) : Up K H (upd H p o) := Same.up (fun b u q => by rw [upd_ne (ne_of_none q h)]; exact q)
theorem up_set {K : PySem.W.Frag} {H : Hp} {p : Addr} {o : HO} {ys : List V} (h : H p = some (.lst ys)) : Up K H (upd H p o) := fun c xs q => by
  have ne : ∀ u, H c = some u → (∀ ys, u ≠ .lst ys) → c ≠ p := fun u e n z => by
    rw [z, h] at e
    cases e
    exact n _ rfl
  rcases q with (q | ⟨u, q⟩) | q
  · exact .inl (.inl (by rw [upd_ne (ne _ q fun _ z => nomatch z)]; exact q))
  · exact .inl (.inr ⟨u, by rw [upd_ne (ne _ q fun _ z => nomatch z)]; exact q⟩)
  · exact .inr q
/-! ### items -/
structure Good where
  whole : Int → Prop
  text : Str → Prop
  name : Str → Prop
  num : Int → Prop
  names : List Str → Prop
  nums : List Int → Prop
def Itm (G : Good) : Nat → D → Prop
  | 0, _ => False
  | k + 1, d => (∃ n, d = .tup [.str "whole", .int n] ∧ G.whole n) ∨ (∃ x, d = .tup [.str "text", .str x] ∧ G.text x) ∨
      (∃ n e, d = .tup [.str "arm", .int n, e] ∧ G.num n ∧ Itm G k e) ∨ (∃ es, d = .tup [.str "row", .tup es] ∧ es.length ≤ 3 ∧ ∀ e ∈ es, Itm G k e) ∨
      (∃ ks es, d = .tup [.str "map", .tup (pairsD (ks.map D.str) es)] ∧ ks.length = es.length ∧ es.length ≤ 3 ∧ G.names ks ∧ ∀ e ∈ es, Itm G k e) ∨
      (∃ ks es, d = .tup [.str "rec", .tup (pairsD (ks.map D.int) es)] ∧ ks.length = es.length ∧ es.length ≤ 3 ∧ G.nums ks ∧ ∀ e ∈ es, Itm G k e)
theorem noLs_pairs : ∀ {as bs : List D}, (∀ d ∈ as, noL d = true) → (∀ d ∈ bs, noL d = true) → noLs (pairsD as bs) = true
  | [], _, _, _ => by simp [pairsD, noLs]
  | _ :: _, [], _, _ => by simp [pairsD, noLs]
  | a :: as, b :: bs, h1, h2 => by
    have r := noLs_pairs (as := as) (bs := bs) (fun d m => h1 d (List.mem_cons_of_mem _ m)) fun d m => h2 d (List.mem_cons_of_mem _ m)
    simp only [pairsD, noLs, noL, h1 a List.mem_cons_self, h2 b List.mem_cons_self, r, Bool.and_self]
theorem Itm.noL {G : Good} : ∀ {k : Nat} {d : D}, Itm G k d → noL d = true
  | 0, _, h => h.elim
  | k + 1, d, h => by
    rcases h with ⟨n, rfl, _⟩ | ⟨x, rfl, _⟩ | ⟨n, e, rfl, _, i⟩ | ⟨es, rfl, _, i⟩ | ⟨ks, es, rfl, _, _, _, i⟩ | ⟨ks, es, rfl, _, _, _, i⟩
    · rfl
    · rfl
    · simp only [L2.noL, noLs, Bool.true_and, Bool.and_true]; exact Itm.noL i
    · simp only [L2.noL, noLs, Bool.true_and, Bool.and_true]; exact noLs_all fun e m => Itm.noL (i e m)
    · simp only [L2.noL, noLs, Bool.true_and, Bool.and_true]
      refine noLs_pairs (fun d m => ?_) fun e m => Itm.noL (i e m)
      obtain ⟨x, _, rfl⟩ := List.mem_map.mp m
      rfl
    · simp only [L2.noL, noLs, Bool.true_and, Bool.and_true]
      refine noLs_pairs (fun d m => ?_) fun e m => Itm.noL (i e m)
      obtain ⟨x, _, rfl⟩ := List.mem_map.mp m
      rfl
theorem Itm.noLs {G : Good} {k : Nat} {ds : List D} (h : ∀ d ∈ ds, Itm G k d) : noLs ds = true := noLs_all fun d m => (h d m).noL
end L2
set_option Elab.async false
set_option linter.all false
set_option maxRecDepth 100000
namespace L2
open PySem PySem.Spec PyProof.Rows
/-! ### the same rules, what is to be said first said first (a named argument costs the elaborator a look into the promise) -/
section
variable {X : Cx}
theorem ps_setI (i : Nat) {x : Str} {e : Expr} {te : TE} {pos pos' : Pos} (hN : X.N.Nodup) (hi : X.N[i]? = some x) (hx : Loc X.env.scope x) (he : PE X e te)
    (hs : swapsWith e (some (.Name x pos')) pos.line X.env = pure false := by rfl) (hf : X.fn x = true ∨ X.env.scope.names.lookup x = some .local := by first | exact .inl rfl | exact .inr rfl | assumption) :
    PS X (.Assign [.Name x pos'] e pos) (tAsg te (gName i)) := ps_set hN hi hx he hs hf
theorem pg_nameI (i : Nat) {x : Str} {pos : Pos} (hN : X.N.Nodup) (hi : X.N[i]? = some x) (hx : Loc X.env.scope x)
    (hf : X.fn x = true ∨ X.env.scope.names.lookup x = some .local := by first | exact .inl rfl | exact .inr rfl | assumption) : PG X (.Name x pos) (gName i) := pg_name hN hi hx hf
theorem pe_globR {x : Str} {C : Addr} {pos : Pos} (hg : Gl X x) (hm : X.mg x = some (.ref C)) (hd : (x == ("__debug__" : Str)) = false := by decide) : PE X (.Name x pos) (tC (.ref C)) := pe_glob hg hm rfl hd
theorem pe_bltnT {T : String} {x : Str} {pos : Pos} (hg : Gl X x) (hm : X.mg x = none) (hv : bootBuiltins x = some (.type T)) (hn : x ≠ "__name__" := by decide) (hd : (x == ("__debug__" : Str)) = false := by decide) :
    PE X (.Name x pos) (tC (.ty T)) := pe_bltn hg hm hv rfl hn hd
theorem pe_compI (NX : List Str) (outer : Scope) (N : List Str) (fr : List (Option Nat)) {scope : Scope} {tg elt iter : Expr} {ifs : List Expr} {pos : Pos} {wi : TI} {g : DG} {tt : DT} {te : DE} (hc : X.calm = true) (hi : PI X tg iter wi)
    (C : CompFr X NX outer scope N fr) (hg : ∀ fp s H, PG (cxComp X scope N fp s H) tg (g fp s H)) (ht : ∀ fp s H, PTs (cxComp X scope N fp s H) ifs (tt fp s H)) (he : ∀ fp s H, PE (cxComp X scope N fp s H) elt (te fp s H))
    (hs : ∀ x, foldedSetIterable iter X.env x = pure x := by intro _; rfl) : PE X (.ListComp elt [⟨tg, iter, ifs, 0⟩] scope pos) (tComp wi fr g tt te) := pe_comp hc hi C hg ht he hs
theorem ps_setCompI (i : Nat) (NX : List Str) (outer : Scope) (N : List Str) (fr : List (Option Nat)) {scope : Scope} {tg elt iter : Expr} {ifs : List Expr} {pos pos' pos2 : Pos} {wi : TI} {g : DG} {tt : DT} {te : DE} {x : Str} (hN : X.N.Nodup) (hix : X.N[i]? = some x)
    (hx : Loc X.env.scope x) (hc : X.calm = true) (hi : PI X tg iter wi) (C : CompFr X NX outer scope N fr) (hg : ∀ fp s H, PG (cxComp X scope N fp s H) tg (g fp s H)) (ht : ∀ fp s H, PTs (cxComp X scope N fp s H) ifs (tt fp s H))
    (he : ∀ fp s H, PE (cxComp X scope N fp s H) elt (te fp s H)) (hsw : swapsWith (.ListComp elt [⟨tg, iter, ifs, 0⟩] scope pos) (some (.Name x pos')) pos2.line X.env = pure true := by rfl)
    (hs : ∀ x, foldedSetIterable iter X.env x = pure x := by intro _; rfl) (hf : X.fn x = true ∨ X.env.scope.names.lookup x = some .local := by first | exact .inl rfl | exact .inr rfl | assumption) :
    PS X (.Assign [.Name x pos'] (.ListComp elt [⟨tg, iter, ifs, 0⟩] scope pos) pos2) (tAsg (tComp wi fr g tt te) (gName i)) := ps_setComp hN hix hx hc hi C hg ht he hsw hs hf
end
end L2
namespace EX
open PySem
/-- an exception at e has been noted by the frames l: T is its new traceback -/
structure Noted (l : List Env) (e T : Addr) (oe : Obj) (h h' : Heap) : Prop where
  keep : ∀ b o, b ≠ e → b ∉ l.filterMap (·.frame) → h.get? b = some o → h'.get? b = some o
  slot : ∀ b o, b ≠ e → h.get? b = some o → ∃ sl, h'.get? b = some { o with slots := sl }
  exc : h'.get? e = some (oe.mapFields (·.setIfInBounds 1 (.ref T)))
  new : h.objs.size ≤ T
  tb : ∃ oT ts, h'.get? T = some oT ∧ oT.data = .fields ts ∧ 3 < ts.size
section
variable {M : Model} {A : Around} {E : Value → Shared → Prop} {s : Shared} {env : Env} {outer : List Env} {base : Heap} {L e T : Addr} {oe : Obj} {vs : Array Value} {Q : Unit → Shared → Prop}
theorem frames_ne (hl : s.heap.FunFrames base (env :: outer)) (he : s.heap.get? e = some oe) (hd : oe.data = .fields vs) : e ∉ (env :: outer).filterMap (·.frame) := fun hm => by
  obtain ⟨_, o, ho, hn⟩ := hl.mem hm
  rw [he] at ho
  cases ho
  exact hn vs hd
theorem note_new (hfr : A.frames = some (env :: outer)) (hl : s.heap.FunFrames base (env :: outer)) (hf : env.frame = some L)
    (he : s.heap.get? e = some oe) (hd : oe.data = .fields vs) (h1 : vs[1]? = some .none)
    (h : ∀ h' T, Noted (env :: outer) e T oe s.heap h' → Q () { s with heap := h' }) : wpAny M A (noteFrame (.ref e) env) Q E s := by
  have hz : 1 < vs.size := (Array.getElem?_eq_some_iff.mp h1).1
  have hne := frames_ne hl he hd
  unfold noteFrame
  simp only [hf]
  refine wpAny_bind (wpAny_field he hd h1 ?_)
  rw [if_neg (by decide)]
  refine wpAny_bind (wpAny_frameOf_fun hfr hl hf fun h₁ sl => wpAny_bind (wpAny_entryPlaceOf fun pl hpl => ?_))
  unfold EntryCells.newEntry newFields
  refine wpAny_bind (wpAny_newObj_type ?_ (hpl.sizeOk5 _ _ _ _ _))
  have e1 : h₁.get? e = some oe := (sl.2.1 e hne).trans he
  have z1 : h₁.objs.size = s.heap.objs.size := sl.1
  refine wpAny_setField (Heap.get?_push_of_some _ e1) hd hz (h _ h₁.objs.size ⟨fun b o hb hn q => ?_, fun b o hb q => ?_, ?_, Nat.le_of_eq z1.symm, ?_⟩)
  · exact (Heap.get?_update_other _ _ (Ne.symm hb)).trans (Heap.get?_push_of_some _ ((sl.2.1 b hn).trans q))
  · obtain ⟨x, q'⟩ := sl.2.2 b o q
    exact ⟨x, (Heap.get?_update_other _ _ (Ne.symm hb)).trans (Heap.get?_push_of_some _ q')⟩
  · exact Heap.get?_update_self _ (Heap.get?_push_of_some _ e1) (Obj.isFreed_of_fields (Obj.data_mapFields hd _))
  · refine ⟨_, _, (Heap.get?_update_other _ _ (Nat.ne_of_lt (Heap.lt_size e1))).trans (Heap.get?_push_size h₁ rfl), rfl, ?_⟩
    simp only [List.size_toArray, List.length_append, List.length_cons, List.length_nil]
    omega
/-- its flight is at no frame -/
theorem flight_off {oT : Obj} {ts : Array Value} (he : s.heap.get? e = some oe) (hd : oe.data = .fields vs) (h1 : vs[1]? = some (.ref T)) (hT : s.heap.get? T = some oT) (hdT : oT.data = .fields ts) (hz : 3 < ts.size)
    (h : ∀ h', (∀ b, b ≠ T → h'.get? b = s.heap.get? b) → (∃ oT ts, h'.get? T = some oT ∧ oT.data = .fields ts ∧ 3 < ts.size) → Q () { s with heap := h' }) : wpAny M A (setFlight (.ref e) none) Q E s := by
  refine wpAny_setFlight_none he hd h1 hT hdT hz (h _ (fun b hb => Heap.get?_update_other _ _ (Ne.symm hb)) ⟨_, _, Heap.get?_update_self _ hT (Obj.isFreed_of_fields (Obj.data_mapFields hdT _)), Obj.data_mapFields hdT _, ?_⟩)
  rw [Array.size_setIfInBounds]; exact hz
end
end EX
namespace EX
open PySem
abbrev Lk {α : Type} (M : Model) (h : Heap) (t : Sem α) (r : α) : Prop :=
  ∀ (A : Around) (Q : α → Shared → Prop) (E : Value → Shared → Prop) (s : Shared), (∀ b o, h.get? b = some o → s.heap.get? b = some o) → Q r s → wpAny M A t Q E s
section
variable {M : Model} {A : Around} {E : Value → Shared → Prop} {s : Shared} {env : Env}
theorem not_cls {h : Heap} {e : Addr} {oe : Obj} {vs : Array Value} (he : h.get? e = some oe) (hd : oe.data = .fields vs) : Lk M h (isType (.ref e)) false := by
  intro A Q E s k q
  show wpAny M A (do return match (← loadHead e).data with | .cls _ => true | _ => false) Q E s
  refine wpAny_bind (wpAny_loadPart (k _ _ he) ?_)
  rw [hd]; exact wpAny_pure q
theorem type_at {h : Heap} {e : Addr} {oe : Obj} {c : Value} (he : h.get? e = some oe) (hc : oe.cls = c) : Lk M h (typeOf (.ref e)) c := by
  intro A Q E s k q
  show wpAny M A (do return (← loadPart e (some headPart)).cls) Q E s
  refine wpAny_bind (wpAny_loadPart (k _ _ he) ?_)
  rw [hc]; exact wpAny_pure q
theorem raise_at {x : Sem Value} {Q : Flow → Shared → Prop} (hh : A.handled = none)
    (h : wpAny M A x (fun v s₁ => ∃ e C oe vs, v = .ref e ∧ s₁.heap.get? e = some oe ∧ oe.cls = .ref C ∧ oe.data = .fields vs ∧ vs[1]? = some .none ∧
      Lk M s₁.heap (isSubtype (.ref C) (.type "BaseException")) true ∧ Lk M s₁.heap (typeOf (.ref C)) (.type "type") ∧ E (.ref e) s₁) E s) :
    wpAny M A (raiseStmt env (some x) none) Q E s := by
  unfold raiseStmt
  refine wpAny_bind (wpAny_mono h (fun v s₁ h₁ => ?_) fun _ _ y => y)
  obtain ⟨e, C, oe, vs, rfl, he, hc, hd, h1, hs, ht, hE⟩ := h₁
  have n1 := not_cls (M := M) he hd
  have n2 := type_at (M := M) he hc
  refine wpAny_bind (wpAny_pure (wpAny_bind (wpAny_holding ?_)))
  unfold excFromValue isExcClass isInstance
  refine wpAny_bind (wpAny_bind (n1 _ _ _ _ (fun _ _ z => z) ?_))
  rw [if_neg Bool.false_ne_true]
  refine wpAny_pure ?_
  rw [if_neg Bool.false_ne_true]
  refine wpAny_bind (wpAny_bind (n2 _ _ _ _ (fun _ _ z => z) (hs _ _ _ _ (fun _ _ z => z) ?_)))
  rw [if_pos rfl]
  refine wpAny_pure ?_
  refine wpAny_bind (n1 _ _ _ _ (fun _ _ z => z) ?_)
  rw [if_neg Bool.false_ne_true]
  unfold raisedInstance
  refine wpAny_bind (wpAny_bind (n2 _ _ _ _ (fun _ _ z => z) (wpAny_bind (ht _ _ _ _ (fun _ _ z => z) ?_))))
  rw [if_pos (by decide)]
  refine wpAny_pure (wpAny_bind ?_)
  unfold setFlight
  refine wpAny_bind (wpAny_field he hd h1 ?_)
  rw [if_neg (by decide)]
  exact wpAny_pure (wpAny_raiseNew_none hh hE)
end
end EX
namespace EX
open PySem
section
variable {M : Model} {A : Around} {E : Value → Shared → Prop} {s : Shared} {env : Env}
theorem is_cls {h : Heap} {c : Addr} {oc : Obj} {cd : ClassData} (he : h.get? c = some oc) (hd : oc.data = .cls cd) : Lk M h (isType (.ref c)) true := by
  intro A Q E s k q
  show wpAny M A (do return match (← loadHead c).data with | .cls _ => true | _ => false) Q E s
  refine wpAny_bind (wpAny_loadPart (k _ _ he) ?_)
  rw [hd]; exact wpAny_pure q
theorem matches_at {e C D : Addr} {b : Bool} {Q : Bool → Shared → Prop} (h1 : Lk M s.heap (typeOf (.ref D)) (.type "type")) (h2 : Lk M s.heap (isType (.ref D)) true) (h3 : Lk M s.heap (isSubtype (.ref D) (.type "BaseException")) true)
    (h4 : Lk M s.heap (typeOf (.ref e)) (.ref C)) (h5 : Lk M s.heap (isSubtype (.ref C) (.ref D)) b) (h : Q b s) : wpAny M A (excMatches (.ref e) (.ref D)) Q E s := by
  have nt : isSubtype (.type "type") (.type "tuple") = pure false := by rw [isSubtype_type]; kernel_rfl
  unfold excMatches isInstance
  refine wpAny_bind (wpAny_bind (h1 _ _ _ _ (fun _ _ z => z) ?_))
  rw [nt]
  refine wpAny_pure ?_
  rw [if_neg Bool.false_ne_true]
  refine wpAny_bind (wpAny_pure ?_)
  simp only [List.forIn_cons, List.forIn_nil]
  unfold isExcClass
  refine wpAny_bind (wpAny_bind (wpAny_bind (wpAny_bind (h2 _ _ _ _ (fun _ _ z => z) ?_))))
  rw [if_pos rfl]
  refine h3 _ _ _ _ (fun _ _ z => z) ?_
  simp only [Bool.not_true, Bool.false_eq_true, if_false]
  refine wpAny_pure (wpAny_pure (wpAny_bind (h4 _ _ _ _ (fun _ _ z => z) ?_)))
  refine wpAny_bind (wpAny_bind (wpAny_bind (h5 _ _ _ _ (fun _ _ z => z) ?_)))
  cases b with
  | true =>
    simp only [if_true]
    exact wpAny_pure (wpAny_pure (wpAny_pure h))
  | false =>
    simp only [Bool.false_eq_true, if_false]
    exact wpAny_pure (wpAny_pure (wpAny_pure h))
end
section
variable {prog : Program} {w : World} {A : Around} {E : Value → Shared → Prop} {s : Shared} {env : Env}
/-- try: .. except D as n: suite; the exception has come, noted and landed -/
theorem handle_at {e C D : Addr} {t : Expr} {n : Str} {b₀ : Stmt} {suite : List Stmt} {pos : Pos} {rest : List ExceptHandler} {Q : Flow → Shared → Prop}
    (h : wpAny (model prog w) (A.mark (some (.ref e))) (eval t env) (fun c s₁ => c = .ref D ∧ Lk (model prog w) s₁.heap (typeOf (.ref D)) (.type "type") ∧ Lk (model prog w) s₁.heap (isType (.ref D)) true ∧
      Lk (model prog w) s₁.heap (isSubtype (.ref D) (.type "BaseException")) true ∧ Lk (model prog w) s₁.heap (typeOf (.ref e)) (.ref C) ∧ Lk (model prog w) s₁.heap (isSubtype (.ref C) (.ref D)) true ∧
      wpAny (model prog w) (A.mark (some (.ref e))) (setFlight (.ref e) none) (fun _ s₂ =>
          wpAny (model prog w) (A.mark (some (.ref e))) (storeName env n (.ref e)) (fun _ s₃ =>
            wpAny (model prog w) (A.mark (some (.ref e))) (execs (b₀ :: suite) env)
              (fun f s₄ => wpAny (model prog w) A (do bindName env n .none; unbindBehindTheSuite env n pos) (fun _ s₅ => Q f s₅) E s₄)
              (fun _ _ => False) s₃) (fun _ _ => False) s₂) (fun _ _ => False) s₁) (fun _ _ => False) s) :
    wpAny (model prog w) A (handleBy (.ref e) env (.ExceptHandler (some t) (some n) (b₀ :: suite) pos :: rest)) Q E s := by
  refine wpAny_handleBy_cons (codeAny_handlers_test (wpAny_mono h (fun c s₁ h₁ => ?_) fun _ _ x => x.elim)) (by intro q; cases q)
  obtain ⟨rfl, x1, x2, x3, x4, x5, hk⟩ := h₁
  refine matches_at x1 x2 x3 x4 x5 ?_
  refine codeAny_handlers_suite_as (wpAny_mono hk (fun _ s₂ h₂ => wpAny_mono h₂ (fun _ s₃ h₃ => wpAny_mono h₃ (fun f s₄ h₄ => h₄) fun _ _ z => z.elim) fun _ _ z => z.elim) fun _ _ z => z.elim)
end
end EX
set_option maxRecDepth 100000
namespace EX
open PySem
section
variable {prog : Program} {w : World} {A : Around} {E : Value → Shared → Prop} {h : Heap} {g : Array GenState} {d : Drawn} {t : Nat} {os : OsState}
variable {nm q : Str} {C N : Addr} {bs bm bmB : List Value} {hdct : Bool} {sn : List Str} {sub : List Value} {ab : Bool} {col : Option Bool} {dd : Option Addr} {k0 k1 k2 k3 k5 : Option Value} {B newId initId : String}
abbrev tupO (rest : List Value) : Obj := { cls := .type "tuple", data := .seq rest.toArray }
abbrev excO (C t : Addr) : Obj := { cls := .ref C, data := .fields #[.ref t, .none, .none, .none, .bool false, .none] }
abbrev made (h : Heap) (C : Addr) (rest : List Value) : Heap := (h.push (tupO rest)).push (excO C h.objs.size)
theorem made_keep {rest : List Value} : ∀ b o, h.get? b = some o → (made h C rest).get? b = some o := fun _ _ e => Heap.get?_push_of_some _ (Heap.get?_push_of_some _ e)
theorem made_at {rest : List Value} : (made h C rest).get? (h.objs.size + 1) = some (excO C h.objs.size) := by
  have := Heap.get?_push_size (h.push (tupO rest)) (o := excO C h.objs.size) rfl
  rwa [Heap.size_push] at this
theorem exc_new (F : ExcBaseFacts B newId initId bmB) (T : OwnTail h bmB bm) {rest : List Value} {fI : Addr} {Q : Fin → Shared → Prop}
    (hC : h.get? C = some (excClassObj nm q C N bs bm hdct sn sub ab col dd k0 k1 k2 k3 k5 newId)) (hI : Lk (model prog w) h (typeLookup (.ref C) "__init__") (some (.ref fI)))
    (hf : Lk (model prog w) h (typeOf (.ref fI)) (.type "function")) (hrest : rest.length ≤ sizeLine)
    (hq : wpAny (model prog w) A (call (.ref fI) (.ref (h.objs.size + 1) :: rest)) (fun r s' => r = .none ∧ Q (.done (.ret (.ref (h.objs.size + 1)))) s') E ⟨made h C rest, g, d, t, os⟩) :
    wpAny (model prog w) A (Builtin.«type.__call__» ⟨.ref C :: rest, []⟩) Q E ⟨h, g, d, t, os⟩ := by
  have c1 := made_keep (C := C) (rest := rest) _ _ hC
  have cC : (Value.ref C :: bm).contains (.ref C) = true := by simp
  repeat (first | with_reducible refine wpAny_madeBy_exc hC ?_ | with_reducible refine wpAny_loadPart_at hC ?_ | wp_step)
  refine codeAny_call_builtin_code (Code.quiet_builtin _ F.quiet) (wpAny_check_new_subT F T hC (codeAny_exc_new_subT F T hC ?_ hrest))
  show wpAny _ _ _ _ _ _
  unfold isInstance
  have e1 := made_at (h := h) (C := C) (rest := rest)
  repeat (first | (with_reducible refine wpAny_isSubtype_exc c1 ?_; rw [cC]) | with_reducible refine wpAny_loadPart_at e1 ?_ | wp_step)
  show wpAny _ _ (typeLookup (.ref C) _) _ _ _
  refine hI _ _ _ _ made_keep (wpAny_holding (wpAny_bind ?_))
  unfold bindSpecial
  refine wpAny_bind (hf _ _ _ _ made_keep ?_)
  rw [if_pos (by decide)]
  refine wpAny_pure (wpAny_bind (wpAny_mono hq (fun r s' ⟨hr, hQ⟩ => ?_) fun _ _ y => y))
  subst hr
  wp_walk
  exact hQ
end
end EX
set_option maxRecDepth 100000
namespace EX
open PySem
section
variable {prog : Program} {w : World} {A : Around} {E : Value → Shared → Prop} {h : Heap} {g : Array GenState} {d : Drawn} {t : Nat} {os : OsState}
variable {nm q : Str} {C N : Addr} {bs bm bmB : List Value} {hdct : Bool} {sn : List Str} {sub : List Value} {ab : Bool} {col : Option Bool} {dd : Option Addr} {k0 k1 k2 k3 k5 : Option Value} {B newId initId : String}
theorem exc_call (F : ExcBaseFacts B newId initId bmB) (T : OwnTail h bmB bm) {rest : List Value} {fI : Addr} {Q : Value → Shared → Prop}
    (hC : h.get? C = some (excClassObj nm q C N bs bm hdct sn sub ab col dd k0 k1 k2 k3 k5 newId)) (hI : Lk (model prog w) h (typeLookup (.ref C) "__init__") (some (.ref fI)))
    (hf : Lk (model prog w) h (typeOf (.ref fI)) (.type "function")) (hrest : rest.length ≤ sizeLine)
    (hq : wpAny (model prog w) (A.under (.builtin "type.__call__" ⟨.ref C :: rest, []⟩)) (call (.ref fI) (.ref (h.objs.size + 1) :: rest)) (fun r s' => r = .none ∧ Q (.ref (h.objs.size + 1)) s') E ⟨made h C rest, g, d, t, os⟩) :
    wpAny (model prog w) A (call (.ref C) rest) Q E ⟨h, g, d, t, os⟩ := by
  have f2 := tc_bind (.ref C)
  have f1 := tc_lookup
  have ty : (⟨h, g, d, t, os⟩ : Shared).TypeIs (.ref C) "type" := ⟨_, hC, rfl⟩
  refine wpAny_call (codeAny_of_tree ?_)
  show wpAny _ _ (callAny (.ref C) _) _ _ _
  repeat (any_goals (first | with_reducible refine wpAny_loadPart_at hC ?_ | assumption | wp_step))
  refine ⟨rfl, codeAny_call_builtin_at (Code.quiet_builtin _ (by decide +kernel)) entry_typeCall (wpAny_check_type_call_sub hC (exc_new F T hC hI hf hrest hq))⟩
end
end EX
set_option maxRecDepth 100000
namespace EX
open PySem Builtin Builtin.ObjectAttr
/-- what a store of an exception's field asks of its class -/
structure SetOk (M : Model) (h : Heap) (x C : Addr) (name : Str) : Prop where
  sa : Lk M h (typeLookup (.ref C) "__setattr__") (some (.builtin "object.__setattr__"))
  no : Lk M h (typeLookup (.ref C) name) none
  rf : Lk M h (refuseIfOverridden (.ref x) "__setattr__") ()
  ob : Lk M h (isSubtype (.ref C) (.type "object")) true
  cd : ∃ cd, Lk M h (classData C) cd ∧ cd.hasDict = true
structure SaFacts : Prop where
  slot : Slot "object" "__setattr__" "object.__setattr__"
  entry : entryFor table "object.__setattr__" = some Builtin.«object.__setattr__»
  kind : builtinKind "object.__setattr__" = some .slot
  split : splitId "object.__setattr__" = some ("object", "__setattr__")
  args : ∀ a b c : Value, argsOk "object.__setattr__" ⟨[a, b, c], []⟩
section
variable {prog : Program} {w : World} {A : Around} {E : Value → Shared → Prop} {s : Shared} {x C : Addr} {o : Obj} {name : Str} {v : Value}
theorem slot_check {M : Model} {i owner n : String} {self : Value} {rest : List Value} {Q : Unit → Shared → Prop} (hk : builtinKind i = some .slot) (hs : splitId i = some (owner, n))
    (hi : Lk M s.heap (isInstance self (.type owner)) true) (ha : argsOk i ⟨self :: rest, []⟩) (z : Q () s) : wpAny M A (checkBuiltinCall i ⟨self :: rest, []⟩) Q E s := by
  simp only [checkBuiltinCall, hk, hs]
  refine wpAny_bind (hi _ _ _ _ (fun _ _ y => y) ?_)
  rw [if_neg (by decide)]
  cases g : Manifest.signature? i with
  | none => exact wpAny_pure z
  | some sig =>
    have e : Bind.checkArgs i sig ⟨self :: rest, []⟩ = pure () := by unfold argsOk at ha; rw [g] at ha; exact ha
    exact (show wpAny M A (Bind.checkArgs i sig ⟨self :: rest, []⟩) Q E s by rw [e]; exact wpAny_pure z)
theorem inst_lk {M : Model} {h : Heap} {b : Value} {r : Bool} (hx : h.get? x = some o) (hc : o.cls = .ref C) (hb : Lk M h (isSubtype (.ref C) b) r) : Lk M h (isInstance (.ref x) b) r := by
  intro A Q E s k q
  unfold isInstance
  exact wpAny_bind (type_at hx hc _ _ _ _ k (hb _ _ _ _ k q))
theorem osa_as (self v : Value) (name : Str) (tk : Tok) : Builtin.«object.__setattr__» ⟨[self, .str name tk, v], []⟩ = (refuseIfOverridden self "__setattr__" >>= fun _ => typeOf self >>= fun c => typeLookup c name >>= fun a =>
    storeTaker? a >>= fun y => match y with | some y => setByDescriptor y self v | none => storeInOwnDict self c (.str name tk) name v a.isSome) := by kernel_rfl
theorem set_upto (SF : SaFacts) {Q : Unit → Shared → Prop} (S : SetOk (model prog w) s.heap x C name) (hx : s.heap.get? x = some o) (hc : o.cls = .ref C)
    (h : ∀ (A : Around) (R : Fin → Shared → Prop) (E' : Value → Shared → Prop) (b : Bool) (tk : Tok), (∀ s', Q () s' → R (.done (.ret .none)) s') →
      wpAny (model prog w) A (storeInOwnDict (.ref x) (.ref C) (.str name tk) name v b) R E' { s with toks := s.toks + 1 }) :
    wpAny (model prog w) A (setAttr (.ref x) name v) Q E s := by
  have ty := type_at (M := model prog w) hx hc
  have same : ∀ b o, s.heap.get? b = some o → ({ s with toks := s.toks + 1 } : Shared).heap.get? b = some o := fun _ _ e => e
  unfold setAttr callSpecial? specialOf
  refine wpAny_bind (wpAny_mkText (wpAny_bind (wpAny_bind (wpAny_bind (ty _ _ _ _ same (S.sa _ _ _ _ same (wpAny_holding ?_)))))))
  rw [SF.slot.bind]
  refine wpAny_bind (wpAny_pure (wpAny_bind (wpAny_call ?_)))
  refine codeAny_call_builtin SF.slot.plain SF.entry ?_
  have ag := SF.args (.ref x) (.str name s.toks) v
  have ii := inst_lk (M := model prog w) hx hc S.ob
  refine @slot_check _ _ { s with toks := s.toks + 1 } (model prog w) "object.__setattr__" "object" "__setattr__" (.ref x) [.str name s.toks, v] _ SF.kind SF.split ii ag ?_
  rw [show ([Value.ref x] ++ [Value.str name s.toks, v]) = [.ref x, .str name s.toks, v] from rfl, osa_as]
  refine wpAny_bind (S.rf _ _ _ _ same (wpAny_bind (ty _ _ _ _ same (wpAny_bind (S.no _ _ _ _ same (wpAny_bind (wpAny_pure ?_)))))))
  exact h _ _ _ _ _ fun s' z => wpAny_pure (wpAny_pure z)
abbrev newD : Obj := { cls := .type "dict", data := .dict #[] }
/-- the first field: the dict comes with it -/
theorem set_first (SF : SaFacts) {Q : Unit → Shared → Prop} {vs : Array Value} (S : SetOk (model prog w) s.heap x C name) (hx : s.heap.get? x = some o) (hc : o.cls = .ref C) (hd : o.dict = none) (hv : o.data = .fields vs)
    (h : ∀ h' tk, (∀ b u, b ≠ x → s.heap.get? b = some u → h'.get? b = some u) → h'.get? x = some { o with dict := some s.heap.objs.size } → h'.Ns1 s.heap.objs.size (fun y => if y = name then some v else none) →
      Q () { s with heap := h', toks := tk }) : wpAny (model prog w) A (setAttr (.ref x) name v) Q E s := by
  refine set_upto SF S hx hc fun A R E' b tk hR => ?_
  obtain ⟨cd, hcd, hh⟩ := S.cd
  have same : ∀ b o, s.heap.get? b = some o → ({ s with toks := s.toks + 1 } : Shared).heap.get? b = some o := fun _ _ e => e
  obtain ⟨oc, od, dt, sl⟩ := o
  obtain rfl : oc = .ref C := hc
  obtain rfl : od = none := hd
  obtain rfl : dt = .fields vs := hv
  have nx : s.heap.objs.size ≠ x := Nat.ne_of_gt (Heap.lt_size hx)
  unfold storeInOwnDict ownDictForStores instanceDict
  refine wpAny_bind (wpAny_pure (wpAny_bind (wpAny_bind (wpAny_loadPart (same _ _ hx) (wpAny_bind (hcd _ _ _ _ same ?_))))))
  rw [hh]
  refine wpAny_bind (wpAny_alloc (wpAny_bind (wpAny_update (Heap.get?_push_of_some _ hx) (wpAny_pure ?_))))
  have e1 := Heap.get?_push_of_some newD hx
  have e2 : ((s.heap.push newD).update x fun o => { o with dict := some s.heap.objs.size }).get? x = some ⟨.ref C, some s.heap.objs.size, .fields vs, sl⟩ := Heap.get?_update_self _ e1 rfl
  have e3 : ((s.heap.push newD).update x fun o => { o with dict := some s.heap.objs.size }).get? s.heap.objs.size = some newD := (Heap.get?_update_other _ _ (Ne.symm nx)).trans (Heap.get?_push_size _ rfl)
  have ns : ((s.heap.push newD).update x fun o => { o with dict := some s.heap.objs.size }).Ns s.heap.objs.size (fun _ => none) := ⟨newD, #[], _, e3, rfl, (fun e he => absurd he (by simp)), fun _ => rfl⟩
  show wpAny _ _ (storeInDict s.heap.objs.size (.str name tk) name v) _ _ _
  unfold storeInDict newKeyGuard
  refine wpAny_bind (wpAny_pure (wpAny_bind (wpAny_nsSet1 (Heap.Ns1.of_empty ns) fun h' hn' hs => ?_)))
  obtain ⟨oD, esD, epD, hoD, hdD, hcD⟩ := hn'.count (Within.cons name v Within.nil)
  refine wpAny_bind (wpAny_lookBehind hoD ?_ (wpAny_pure (hR _ (h h' _ (fun b u hb q => ?_) ((hs.2 x (Ne.symm nx)).trans e2) hn'))))
  · rw [hdD]; exact pastItsLine_dict (Nat.le_trans hcD (by rw [sizeLine_eq, List.length_cons, List.length_nil]; omega))
  · exact (hs.2 b (Nat.ne_of_lt (Heap.lt_size q))).trans ((Heap.get?_update_other _ _ (Ne.symm hb)).trans (Heap.get?_push_of_some _ q))
/-- a further field -/
theorem set_next (SF : SaFacts) {Q : Unit → Shared → Prop} {dx : Addr} {mA : Str → Option Value} {ns : List Str} (S : SetOk (model prog w) s.heap x C name) (hx : s.heap.get? x = some o) (hc : o.cls = .ref C) (hd : o.dict = some dx)
    (hn : s.heap.Ns1 dx mA) (hw : Within mA ns) (hz : ns.length < 1000)
    (h : ∀ h' tk, Heap.SameBut dx s.heap h' → h'.Ns1 dx (fun y => if y = name then some v else mA y) → Q () { s with heap := h', toks := tk }) : wpAny (model prog w) A (setAttr (.ref x) name v) Q E s := by
  refine set_upto SF S hx hc fun A R E' b tk hR => ?_
  obtain ⟨cd, hcd, hh⟩ := S.cd
  have same : ∀ b o, s.heap.get? b = some o → ({ s with toks := s.toks + 1 } : Shared).heap.get? b = some o := fun _ _ e => e
  obtain ⟨oc, od, dt, sl⟩ := o
  obtain rfl : oc = .ref C := hc
  obtain rfl : od = some dx := hd
  unfold storeInOwnDict ownDictForStores instanceDict
  refine wpAny_bind (wpAny_pure (wpAny_bind (wpAny_bind (wpAny_loadPart (same _ _ hx) (wpAny_bind (hcd _ _ _ _ same ?_))))))
  rw [hh]
  refine wpAny_pure (a := some dx) ?_
  show wpAny _ _ (storeInDict dx (.str name tk) name v) _ _ _
  unfold storeInDict newKeyGuard
  refine wpAny_bind (wpAny_pure (wpAny_bind (wpAny_nsSet1 (s := { s with toks := s.toks + 1 }) hn fun h' hn' hs => ?_)))
  obtain ⟨oD, esD, epD, hoD, hdD, hcD⟩ := hn'.count (Within.cons name v hw)
  refine wpAny_bind (wpAny_lookBehind hoD ?_ (wpAny_pure (hR _ (h h' _ hs hn'))))
  rw [hdD]; exact pastItsLine_dict (Nat.le_trans hcD (by rw [sizeLine_eq, List.length_cons]; omega))
end
end EX
set_option maxRecDepth 100000
namespace EX
open PySem Builtin Builtin.ObjectAttr
/-- what a look at an exception's field asks of its class -/
structure GetOk (M : Model) (h : Heap) (C : Addr) (name : Str) : Prop where
  ga : Lk M h (typeLookup (.ref C) "__getattribute__") (some (.builtin "BaseException.__getattribute__"))
  hk : Lk M h (typeLookup (.ref C) "__getattr__") none
  no : Lk M h (typeLookup (.ref C) name) none
  ob : Lk M h (isSubtype (.ref C) (.type "BaseException")) true
  cd : ∃ cd, Lk M h (classData C) cd ∧ cd.hasDict = true
theorem oga_as (self : Value) (name : Str) (tk : Tok) : ∃ miss : Value → Sem Fin, Builtin.«object.__getattribute__» ⟨[self, .str name tk], []⟩ = (typeOf self >>= fun tp => find self tp name >>= fun f =>
    match f with | .value v => ret v | .bind g a => bindTo g a self tp | .missing => miss tp) := ⟨_, rfl⟩
section
variable {prog : Program} {w : World} {A : Around} {E : Value → Shared → Prop} {s : Shared} {x C dx : Addr} {o : Obj} {name : Str} {v : Value} {mA : Str → Option Value} {vs : Array Value}
theorem ga_slot : Slot "ValueError" "__getattribute__" "BaseException.__getattribute__" := PySem.F.excAttr_ValueError.ga
theorem get_at {expr : Bool} {Q : Value → Shared → Prop} (G : GetOk (model prog w) s.heap C name) (hx : s.heap.get? x = some o) (hc : o.cls = .ref C) (hd : o.dict = some dx) (hv : o.data = .fields vs) (hn : s.heap.Ns dx mA)
    (hm : mA name = some v) (ho : ∀ i, v ≠ .builtin i) (h : Q v { s with toks := s.toks + 1 }) : wpAny (model prog w) A (getAttr (.ref x) name expr) Q E s := by
  obtain ⟨cd, hcd, hh⟩ := G.cd
  obtain ⟨oc, od, dt, sl⟩ := o
  obtain rfl : oc = .ref C := hc
  obtain rfl : od = some dx := hd
  obtain rfl : dt = .fields vs := hv
  have ty := type_at (M := model prog w) hx rfl
  have same : ∀ b o, s.heap.get? b = some o → ({ s with toks := s.toks + 1 } : Shared).heap.get? b = some o := fun _ _ e => e
  have hand : handedOut v = pure v := by
    cases v <;> first | rfl | exact absurd rfl (ho _)
  unfold getAttr getAttrBy
  refine wpAny_bind (wpAny_mkText (wpAny_holding (wpAny_bind (ty _ _ _ _ same (wpAny_bind (G.ga _ _ _ _ same ?_))))))
  have e0 : (onTheHeap (Value.ref C) && Value.builtin "BaseException.__getattribute__" == Value.builtin "object.__getattribute__") = false := by
    rw [show (Value.builtin "BaseException.__getattribute__" == Value.builtin "object.__getattribute__") = false by decide +kernel, Bool.and_false]
  show wpAny _ _ (if (onTheHeap (Value.ref C) && Value.builtin "BaseException.__getattribute__" == Value.builtin "object.__getattribute__") = true then _ else _) _ _ _
  rw [e0, if_neg Bool.false_ne_true]
  unfold getAttrByItsOwn hookBefore
  refine wpAny_bind (G.hk _ _ _ _ same (wpAny_bind (wpAny_attempt (wpAny_holding ?_))))
  unfold callGetattribute boundAndCalled
  have e1 : (expr && onTheHeap (Value.builtin "BaseException.__getattribute__")) = false := by cases expr <;> rfl
  rw [e1, if_neg Bool.false_ne_true, ga_slot.bind]
  refine wpAny_bind (wpAny_pure (wpAny_call ?_))
  refine codeAny_call_builtin ga_slot.plain PySem.F.entry_bexc_ga ?_
  have ag := PySem.F.args_bexc_ga (.ref x) (.str name s.toks)
  have ii := inst_lk (M := model prog w) hx rfl G.ob
  refine @slot_check _ _ { s with toks := s.toks + 1 } (model prog w) "BaseException.__getattribute__" "BaseException" "__getattribute__" (.ref x) [.str name s.toks] _ (by decide +kernel) (by decide +kernel) ii ag ?_
  obtain ⟨miss, em⟩ := oga_as (.ref x) name s.toks
  rw [show ([Value.ref x] ++ [Value.str name s.toks]) = [.ref x, .str name s.toks] from rfl, em]
  refine wpAny_bind (ty _ _ _ _ same (wpAny_bind ?_))
  unfold find
  refine wpAny_bind (G.no _ _ _ _ same (wpAny_bind (wpAny_pure (wpAny_bind (wpAny_pure ?_)))))
  unfold ownThenClass inOwnDict ownDict instanceDict
  refine wpAny_bind (wpAny_bind (wpAny_bind (wpAny_loadPart (same _ _ hx) (wpAny_bind (wpAny_loadPart (same _ _ hx) (wpAny_bind (hcd _ _ _ _ same ?_)))))))
  rw [hh]
  refine wpAny_pure (a := some dx) ?_
  refine wpAny_nsGet (s := { s with toks := s.toks + 1 }) hn ?_
  rw [hm]
  refine wpAny_bind (wpAny_rule (wpAny_pure (wpAny_pure ?_)))
  show wpAny _ _ (handedOut v) _ _ _
  rw [hand]
  exact wpAny_pure h
end
end EX
set_option maxRecDepth 100000
namespace EX
open PySem
section
variable {prog : Program} {w : World} {A : Around} {E : Value → Shared → Prop} {h : Heap} {g : Array GenState} {d : Drawn} {t : Nat} {os : OsState}
variable {nm q : Str} {C N : Addr} {bs bm bmB : List Value} {hdct : Bool} {sn : List Str} {sub : List Value} {ab : Bool} {col : Option Bool} {dd : Option Addr} {k0 k1 k2 k3 k5 : Option Value} {B newId initId : String}
/-- an exception whose class has no __init__ of its own -/
theorem exc_new0 (F : ExcBaseFacts B newId initId bmB) (T : OwnTail h bmB bm) {rest : List Value} {Q : Fin → Shared → Prop}
    (hC : h.get? C = some (excClassObj nm q C N bs bm hdct sn sub ab col dd k0 k1 k2 k3 k5 newId)) (hI : Lk (model prog w) h (typeLookup (.ref C) "__init__") (some (.builtin initId)))
    (hrest : rest.length ≤ sizeLine)
    (hq : ∀ h' t', (∀ b o, h.get? b = some o → h'.get? b = some o) → h'.get? (h.objs.size + 1) = some (excO C t') → Q (.done (.ret (.ref (h.objs.size + 1)))) ⟨h', g, d, t, os⟩) :
    wpAny (model prog w) A (Builtin.«type.__call__» ⟨.ref C :: rest, []⟩) Q E ⟨h, g, d, t, os⟩ := by
  have c1 := made_keep (C := C) (rest := rest) _ _ hC
  have cC : (Value.ref C :: bm).contains (.ref C) = true := by simp
  repeat (first | with_reducible refine wpAny_madeBy_exc hC ?_ | with_reducible refine wpAny_loadPart_at hC ?_ | wp_step)
  refine codeAny_call_builtin_code (Code.quiet_builtin _ F.quiet) (wpAny_check_new_subT F T hC (codeAny_exc_new_subT F T hC ?_ hrest))
  show wpAny _ _ _ _ _ _
  unfold isInstance
  have e1 := made_at (h := h) (C := C) (rest := rest)
  repeat (first | (with_reducible refine wpAny_isSubtype_exc c1 ?_; rw [cC]) | with_reducible refine wpAny_loadPart_at e1 ?_ | wp_step)
  show wpAny _ _ (typeLookup (.ref C) _) _ _ _
  refine hI _ _ _ _ made_keep (wpAny_holding (wpAny_bind (wpAny_of_eq (F.init.bind _) ?_)))
  have T1 := T.keeps (h' := made h C rest) made_keep
  refine wpAny_bind (wpAny_call (codeAny_call_builtin F.init.plain F.initEntry (wpAny_check_init_subT F T1 c1 e1 rfl ?_)))
  wp_walk
  refine hq _ (h.objs.size + 2) (fun b o z => ?_) ?_
  · exact (Heap.get?_update_other _ _ (Nat.ne_of_gt (Nat.lt_succ_of_lt (Heap.lt_size z)))).trans (Heap.get?_push_of_some _ (made_keep _ _ z))
  · rw [Heap.get?_update_self _ (Heap.get?_push_of_some _ e1) rfl]
    simp only [Heap.size_push]
    rfl
theorem exc_call0 (F : ExcBaseFacts B newId initId bmB) (T : OwnTail h bmB bm) {rest : List Value} {Q : Value → Shared → Prop}
    (hC : h.get? C = some (excClassObj nm q C N bs bm hdct sn sub ab col dd k0 k1 k2 k3 k5 newId)) (hI : Lk (model prog w) h (typeLookup (.ref C) "__init__") (some (.builtin initId))) (hrest : rest.length ≤ sizeLine)
    (hq : ∀ h' t', (∀ b o, h.get? b = some o → h'.get? b = some o) → h'.get? (h.objs.size + 1) = some (excO C t') → Q (.ref (h.objs.size + 1)) ⟨h', g, d, t, os⟩) :
    wpAny (model prog w) A (call (.ref C) rest) Q E ⟨h, g, d, t, os⟩ := by
  have f2 := tc_bind (.ref C)
  have f1 := tc_lookup
  have ty : (⟨h, g, d, t, os⟩ : Shared).TypeIs (.ref C) "type" := ⟨_, hC, rfl⟩
  refine wpAny_call (codeAny_of_tree ?_)
  show wpAny _ _ (callAny (.ref C) _) _ _ _
  repeat (any_goals (first | with_reducible refine wpAny_loadPart_at hC ?_ | assumption | wp_step))
  exact ⟨rfl, codeAny_call_builtin_at (Code.quiet_builtin _ (by decide +kernel)) entry_typeCall (wpAny_check_type_call_sub hC (exc_new0 F T hC hI hrest hq))⟩
end
end EX
set_option maxRecDepth 100000
namespace EX
open PySem PySem.W Builtin Builtin.ObjectAttr
section
variable {prog : Program} {w : World} {A : Around} {E : Value → Shared → Prop} {s : Shared} {x C : Addr} {o : Obj} {od : Option Obj} {K : Frag}
theorem find_class (hc : (clsIn K C).isSome = true) (ha : findIn K (.ref C) "__class__" = some (some (.builtin "object.__class__"))) (hg : specialIn K (.builtin "object.__class__") "__get__" = some (some (.builtin "getset_descriptor.__get__")))
    (ht : takesIn K (.builtin "object.__class__") = some true) : findObj K C od "__class__" = some (.bind (.builtin "getset_descriptor.__get__") (.builtin "object.__class__")) := by
  obtain ⟨cd, hc⟩ := Option.isSome_iff_exists.mp hc
  unfold findObj
  rw [hc, ha]
  simp only [Option.bind_some, hg, ht]
theorem class_at {Q : Option Value → Shared → Prop} (X : K.In s.heap) (I : InstAt s.heap x o C od) (ga : findIn K (.ref C) "__getattribute__" = some (some (.builtin "BaseException.__getattribute__"))) (hk : findIn K (.ref C) "__getattr__" = some none)
    (be : mroIn K C (.type "BaseException") = some true) (ob : mroIn K C (.type "object") = some true) (hf : findObj K C od "__class__" = some (.bind (.builtin "getset_descriptor.__get__") (.builtin "object.__class__")))
    (h : Q (some (.ref C)) { s with toks := s.toks + 1 }) : wpAny (model prog w) A (getAttr? (.ref x) "__class__") Q E s := by
  have ty := I.type (M := model prog w)
  have same : ∀ b o, s.heap.get? b = some o → ({ s with toks := s.toks + 1 } : Shared).heap.get? b = some o := fun _ _ e => e
  unfold getAttr? getAttrBy? getAttrBy
  refine wpAny_bind (wpAny_mkText (wpAny_bind (wpAny_attempt (wpAny_holding (wpAny_bind (ty _ _ _ _ same (wpAny_bind (looks_findIn X ga _ _ _ _ same ?_))))))))
  have e0 : (onTheHeap (Value.ref C) && Value.builtin "BaseException.__getattribute__" == Value.builtin "object.__getattribute__") = false := by
    rw [show (Value.builtin "BaseException.__getattribute__" == Value.builtin "object.__getattribute__") = false by decide +kernel, Bool.and_false]
  show wpAny _ _ (if (onTheHeap (Value.ref C) && Value.builtin "BaseException.__getattribute__" == Value.builtin "object.__getattribute__") = true then _ else _) _ _ _
  rw [e0, if_neg Bool.false_ne_true]
  unfold getAttrByItsOwn hookBefore
  refine wpAny_bind (looks_findIn X hk _ _ _ _ same (wpAny_bind (wpAny_attempt (wpAny_holding ?_))))
  unfold callGetattribute boundAndCalled
  rw [Bool.false_and, if_neg Bool.false_ne_true, ga_slot.bind]
  refine wpAny_bind (wpAny_pure (wpAny_call ?_))
  refine codeAny_call_builtin ga_slot.plain PySem.F.entry_bexc_ga ?_
  have ag := PySem.F.args_bexc_ga (.ref x) (.str "__class__" s.toks)
  have ii := inst_lk (M := model prog w) I.at_ I.cls (looks_mroIn X be)
  refine @slot_check _ _ { s with toks := s.toks + 1 } (model prog w) "BaseException.__getattribute__" "BaseException" "__getattribute__" (.ref x) [.str "__class__" s.toks] _ (by decide +kernel) (by decide +kernel) ii ag ?_
  obtain ⟨miss, em⟩ := oga_as (.ref x) "__class__" s.toks
  rw [show ([Value.ref x] ++ [Value.str "__class__" s.toks]) = [.ref x, .str "__class__" s.toks] from rfl, em]
  refine wpAny_bind (ty _ _ _ _ same (wpAny_bind (looks_find X I hf _ _ _ _ same ?_)))
  show wpAny _ _ (holding [Value.builtin "object.__class__"] (call (.builtin "getset_descriptor.__get__") [.builtin "object.__class__", .ref x, .ref C]) >>= ret) _ _ _
  refine wpAny_bind (wpAny_holding (wpAny_call (class_get (s := { s with toks := s.toks + 1 }) (ox := o) (od := od) X I ob ?_)))
  exact wpAny_pure (wpAny_pure (wpAny_pure h))
end
end EX
namespace TupR
open PySem
set_option maxRecDepth 100000
theorem noFill : fillsNumberSlot (.type "tuple") "mul" = pure false :=
  fillsNumberSlot_seq (id := "tuple.__mul__") (r := some (.builtin "tuple.__rmul__")) PySem.F.slot_tuple_mul.lookup (by decide +kernel) PySem.F.slot_tuple_rmul.lookup (by decide +kernel)
theorem rep : seqRepeat? (.type "tuple") = pure (some (.builtin "tuple.__mul__")) := by
  unfold seqRepeat?
  rw [seqSlot_of (T := "tuple") (name := "__mul__") (id := "tuple.__mul__") PySem.F.slot_tuple_mul.lookup (by decide +kernel)]
  rw [seqSlot_of (T := "tuple") (name := "__rmul__") (id := "tuple.__rmul__") PySem.F.slot_tuple_rmul.lookup (by decide +kernel)]
  rfl
abbrev tO (dd : Option Addr) (its : Array Value) (n : Nat) (sl : Array (Option Value)) : Obj := { cls := .type "tuple", dict := dd, data := .seq its n, slots := sl }
theorem declines (a : Int) (t : Tok) (l : Addr) (its : Array Value) (n : Nat) (dd : Option Addr) (sl : Array (Option Value)) :
    Meets (Builtin.«int.__rmul__» ⟨[.int a t, .ref l], []⟩) (fun _ R s => s.heap.get? l = some (tO dd its n sl) ∧ R (.ok (.ret Value.notImplemented)) s) :=
  .of_wp fun prog w A R s h => by
    obtain ⟨hp, g, d, tk, os⟩ := s
    obtain ⟨hl, h⟩ := h
    wp_walk
    exact ⟨_, rfl, h⟩
theorem rep0 (l : Addr) (v : Value) (n : Nat) (u : Tok) (dd : Option Addr) (sl : Array (Option Value)) :
    Meets (Builtin.«tuple.__mul__» ⟨[.ref l, .int 0 u], []⟩) (fun _ R s => s.heap.get? l = some (tO dd #[v] n sl) ∧ R (.ok (.ret (.ref s.heap.objs.size))) { s with heap := s.heap.push { cls := .type "tuple", data := .seq #[] } }) :=
  .of_wp fun prog w A R s h => by
    obtain ⟨hp, g, d, tk, os⟩ := s
    obtain ⟨hl, h⟩ := h
    wp_walk using wpAny_loadPart' hl
    exact ⟨_, rfl, h⟩
theorem rep1 (l : Addr) (v : Value) (n : Nat) (u : Tok) (dd : Option Addr) (sl : Array (Option Value)) :
    Meets (Builtin.«tuple.__mul__» ⟨[.ref l, .int 1 u], []⟩) (fun _ R s => s.heap.get? l = some (tO dd #[v] n sl) ∧ R (.ok (.ret (.ref l))) s) :=
  .of_wp fun prog w A R s h => by
    obtain ⟨hp, g, d, tk, os⟩ := s
    obtain ⟨hl, h⟩ := h
    wp_walk using wpAny_loadPart' hl
    exact ⟨_, rfl, h⟩
theorem rep2 (l : Addr) (v : Value) (n : Nat) (u : Tok) (dd : Option Addr) (sl : Array (Option Value)) :
    Meets (Builtin.«tuple.__mul__» ⟨[.ref l, .int 2 u], []⟩) (fun _ R s => s.heap.get? l = some (tO dd #[v] n sl) ∧ R (.ok (.ret (.ref s.heap.objs.size))) { s with heap := s.heap.push { cls := .type "tuple", data := .seq #[v, v] } }) :=
  .of_wp fun prog w A R s h => by
    obtain ⟨hp, g, d, tk, os⟩ := s
    obtain ⟨hl, h⟩ := h
    wp_walk using wpAny_loadPart' hl
    exact ⟨_, rfl, h⟩
end TupR
namespace L2
open PySem PySem.Spec PyProof.Rows
/-! ### own exceptions: their objects, their dicts -/
/-- an exception of the class at C; new: no frame has noted it -/
def XO (a C : Addr) (od : Option Addr) (new : Bool) (h : Heap) : Prop := ∃ vs sl, h.get? a = some ⟨.ref C, od, .fields vs, sl⟩ ∧ 1 < vs.size ∧ (new = true → vs[1]? = some .none)
abbrev XHO (a C : Addr) (od : Option Addr) (new : Bool) : HO := .ext (XO a C od new)
def DO (a : Addr) (fs : List (Str × V)) (h : Heap) : Prop := fs.length ≤ 100 ∧ ∃ mA, h.Ns1 a mA ∧ (∀ f, RelO (fs.lookup f) (mA f)) ∧ PySem.Within mA (fs.map (·.1))
abbrev DHO (a : Addr) (fs : List (Str × V)) : HO := .ext (DO a fs)
section
variable {P : Program} {w : World} {H : Hp} {h : Heap} {a C : Addr} {od : Option Addr} {new : Bool} {fs : List (Str × V)}
theorem XO.ok (x : XO a C od new h) : ObjOk P w H h a (XHO a C od new) := by
  obtain ⟨vs, sl, e, z⟩ := x
  exact ⟨⟨vs, sl, e, z⟩, ⟨_, e⟩, fun h1 h2 ⟨vs, sl, e, z⟩ k => ⟨vs, sl, k _ e, z⟩⟩
theorem DO.ok (x : DO a fs h) : ObjOk P w H h a (DHO a fs) := by
  obtain ⟨z, mA, ⟨o, es, ep, e, r⟩, q⟩ := x
  exact ⟨⟨z, mA, ⟨o, es, ep, e, r⟩, q⟩, ⟨o, e⟩, fun h1 h2 ⟨z, mA, ⟨o, es, ep, e, r⟩, q⟩ k => ⟨z, mA, ⟨o, es, ep, k _ e, r⟩, q⟩⟩
theorem HOk.xo (x : HOk P w H h) (e : H a = some (XHO a C od new)) : XO a C od new h := (x a _ e).1
theorem HOk.do_ (x : HOk P w H h) (e : H a = some (DHO a fs)) : DO a fs h := (x a _ e).1
end
/-! ### what of the text an exception's class must have -/
def veMro : List Value := [.type "ValueError", .type "Exception", .type "BaseException", .type "object"]
def onlyVE : List Value → Bool
  | .ref _ :: r => onlyVE r
  | l => l == veMro
theorem refuse_ve (self : Value) : ∀ {l : List Value}, onlyVE l = true → refuseLoop self "__setattr__" l = pure ()
  | [], e => by cases e
  | v :: r, e => by
    cases v with
    | ref c => rw [refuseLoop_ref]; exact refuse_ve self (l := r) e
    | type n => rw [show (Value.type n :: r) = veMro from beq_iff_eq.mp e]; exact PySem.F.store_ValueError.passes self
    | _ => cases (show _ = veMro from beq_iff_eq.mp e)
structure XCls (K : PySem.W.Frag) (C : Addr) : Prop where
  sa : PySem.W.findIn K (.ref C) "__setattr__" = some (some (.builtin "object.__setattr__"))
  ga : PySem.W.findIn K (.ref C) "__getattribute__" = some (some (.builtin "BaseException.__getattribute__"))
  hk : PySem.W.findIn K (.ref C) "__getattr__" = some none
  ca : PySem.W.findIn K (.ref C) "__class__" = some (some (.builtin "object.__class__"))
  be : PySem.W.mroIn K C (.type "BaseException") = some true
  ob : PySem.W.mroIn K C (.type "object") = some true
  hd : PySem.W.hasDictIn K C = true
  ty : PySem.W.typeIn K (.ref C) = some (.type "type")
  rf : ((PySem.W.clsIn K C).any fun cd => onlyVE cd.mro) = true
  gs : PySem.W.specialIn K (.builtin "object.__class__") "__get__" = some (some (.builtin "getset_descriptor.__get__"))
  tk : PySem.W.takesIn K (.builtin "object.__class__") = some true
theorem sa_facts : EX.SaFacts := ⟨PySem.F.store_object.slot, PySem.F.store_object.entry, PySem.F.store_object.kind, PySem.F.store_object.split, PySem.F.store_object.args⟩
section
variable {K : PySem.W.Frag} {C x : Addr} {M : Model} {h : Heap} {f : Str} {o : Obj}
theorem XCls.setOk (c : XCls K C) (X : K.In h) (n : NoAttr K C f) (hx : h.get? x = some o) (hc : o.cls = .ref C) : EX.SetOk M h x C f := by
  refine ⟨PySem.W.looks_findIn X c.sa, PySem.W.looks_findIn X n, ?_, PySem.W.looks_mroIn X c.ob, ?_⟩
  · obtain ⟨cd, hc', e⟩ := PySem.W.any_some c.rf
    have hm : PySem.W.Looks M h (mroOf (.ref C)) cd.mro := (PySem.W.looks_clsIn X hc').andThen .now
    intro A Q E s k q
    rw [refuse_eq]
    refine wpAny_bind (EX.type_at hx hc _ _ _ _ k (wpAny_bind (hm _ _ _ _ k ?_)))
    rw [refuse_ve _ e]
    exact wpAny_pure q
  · obtain ⟨cd, hc', e⟩ := PySem.W.any_some c.hd
    exact ⟨cd, PySem.W.looks_clsIn X hc', e⟩
theorem XCls.getOk (c : XCls K C) (X : K.In h) (n : NoAttr K C f) : EX.GetOk M h C f := by
  obtain ⟨cd, hc', e⟩ := PySem.W.any_some c.hd
  exact ⟨PySem.W.looks_findIn X c.ga, PySem.W.looks_findIn X c.hk, PySem.W.looks_findIn X n, PySem.W.looks_mroIn X c.be, cd, PySem.W.looks_clsIn X hc', e⟩
end
/-! ### an object is written, another comes -/
section
variable {X : Cx} {pins : List (Addr × Obj)} {σ : St} {H : Hp} {s : Shared} {h' : Heap} {t' : Nat}
theorem ext_ne {a b : Addr} {φ : Heap → Prop} {u : HO} (e : H a = some (.ext φ)) (q : H b = some u) (hu : ∀ ψ, u ≠ .ext ψ) : b ≠ a := fun z => by
  subst z; rw [q] at e; exact hu _ (Option.some.inj e)
theorem Inv.wr2 {a d : Addr} {o u : HO} {φ : Heap → Prop} (I : Inv X pins σ H s) (ea : H a = some (.ext φ)) (hd : s.heap.objs.size ≤ d) (k : ∀ b v, b ≠ a → s.heap.get? b = some v → h'.get? b = some v)
    (na : ObjOk X.prog X.w (upd (upd H d u) a o) h' a o) (nd : ObjOk X.prog X.w (upd (upd H d u) a o) h' d u) (hh : ∃ v, h'.get? a = some v) : Inv X pins σ (upd (upd H d u) a o) { s with heap := h', toks := t' } := by
  have hfd : H d = none := I.hok.fresh hd
  have nda : d ≠ a := fun z => by rw [z, ea] at hfd; cases hfd
  have at_ : ∀ {b : Addr}, b ≠ a → b ≠ d → upd (upd H d u) a o b = H b := fun h1 h2 => by rw [upd_ne h1, upd_ne h2]
  have nd_ : ∀ {b : Addr} {v : HO}, H b = some v → b ≠ d := fun q z => by rw [z, hfd] at q; cases q
  have na_ : ∀ {b : Addr}, H b = none → b ≠ a := fun q z => by rw [z, ea] at q; cases q
  refine I.un ⟨fun b v q n _ _ => k b v (na_ n) q, fun b v q n _ _ => ⟨v.slots, k b v (na_ n) q⟩, fun b v q n _ => ?_, fun b v q _ => ?_, fun b xs q => ?_, fun b v xs q => ?_, fun b ps q => ⟨#[], ?_⟩⟩ fun b v q => ?_
  · rw [at_ (na_ n) (Nat.ne_of_lt (Nat.lt_of_lt_of_le (Heap.lt_size q) hd))]; exact n
  · by_cases z : b = a
    · rw [z]; exact hh
    · exact ⟨v, k b v z q⟩
  · rw [at_ (ext_ne ea q fun _ z => nomatch z) (nd_ q)]; exact q
  · rw [at_ (ext_ne ea q fun _ z => nomatch z) (nd_ q)]; exact q
  · rw [at_ (ext_ne ea q fun _ z => nomatch z) (nd_ q), q]; simp
  · by_cases z : b = a
    · subst z; rw [upd_same] at q; cases q; exact na
    · by_cases z2 : b = d
      · subst z2; rw [upd_ne z, upd_same] at q; cases q; exact nd
      · rw [at_ z z2] at q
        refine (I.hok b v q).stay (fun c w' hc r => k c w' ?_ r) (fun c r => ?_) fun c xs r => ?_
        · rcases hc with hc | hc
          · rw [hc]; exact z
          · exact ext_ne ea hc fun _ y => nomatch y
        · rw [at_ (ext_ne ea r fun _ y => nomatch y) (nd_ r)]; exact r
        · rw [at_ (ext_ne ea r fun _ y => nomatch y) (nd_ r)]; exact r
end
/-! ### e.f = value, the first, a further one -/
def sFldX (K : PySem.W.Frag) (ta tv : TE) (f : Str) : TS := fun D σ H => tv σ H fun y H1 => ta σ H1 fun x H2 => ∃ a C od new, x = .ref a ∧ H2 a = some (XHO a C od new) ∧ XCls K C ∧ NoAttr K C f ∧
  ((od = none ∧ ∀ d, H2 d = none → d ≠ a → D.nx σ (upd (upd H2 d (DHO d [(f, y)])) a (XHO a C (some d) new))) ∨
   (∃ d fs, od = some d ∧ H2 d = some (DHO d fs) ∧ fs.length < 100 ∧ D.nx σ (upd H2 d (DHO d (putF f y fs)))))
section
variable {X : Cx} {o e value : Expr} {f : Str} {pos pos' : Pos} {ta tv : TE}
theorem ps_fldX (ha : PE X o ta) (hv : PE X value tv) (hs : swapsWith value (some (.Attribute o f pos')) pos.line X.env = pure false) : PS X (.Assign [.Attribute o f pos'] value pos) (sFldX X.K ta tv f) := by
  intro pins s σ H D I h
  refine plainObj_wpAny_Assign_Attribute (thn (hv pins s σ H _ I h) fun u s1 ⟨y, H1, I1, ry, q⟩ => thn (ha pins s1 σ H1 _ I1 q) fun ov s2 ⟨x, H2, I2, rx, a, C, od, new, ex, ea, c, n, q2⟩ => ?_) hs
  subst ex
  obtain rfl : ov = Value.ref a := rx
  obtain ⟨vs, sl, hx, z1, z2⟩ := I2.hok.xo ea
  have S := c.setOk (M := model X.prog X.w) I2.kIn n hx rfl
  rcases q2 with ⟨rfl, q2⟩ | ⟨d, fs, rfl, ed, hl, q2⟩
  · refine EX.set_first sa_facts S hx rfl rfl rfl fun h' tk k e1 ns => ?_
    have hf : H2 s2.heap.objs.size = none := I2.hok.fresh (Nat.le_refl _)
    have nx : s2.heap.objs.size ≠ a := Nat.ne_of_gt (Heap.lt_size hx)
    refine ⟨σ, _, I2.wr2 (d := s2.heap.objs.size) (u := DHO s2.heap.objs.size [(f, y)]) (o := XHO a C (some s2.heap.objs.size) new) ea (Nat.le_refl _) k (XO.ok ⟨vs, sl, e1, z1, z2⟩) (DO.ok ⟨by simp, _, ns, fun g => ?_, fun g hg => ?_⟩) ⟨_, e1⟩, q2 _ hf nx⟩
    · by_cases z : g = f
      · subst z; simp only [List.lookup, beq_self_eq_true, if_true]; exact ry
      · simp only [List.lookup, beq_eq_false_iff_ne.mpr z, if_neg z]; trivial
    · by_cases z : g = f
      · subst z; simp
      · exact absurd (show (if g = f then some u else none) = none from if_neg z) hg
  · obtain ⟨z3, mA, ns, r, wi⟩ := I2.hok.do_ ed
    refine EX.set_next sa_facts S hx rfl rfl ns wi (by rw [List.length_map]; omega) fun h' tk sb ns' => ⟨σ, _, ?_, q2⟩
    have hd : ∃ u, h'.get? d = some u := let ⟨o, _, _, e', _⟩ := ns'; ⟨o, e'⟩
    refine I2.write (x := d) (e := d) (by rw [ed]; exact True.intro) (.inl rfl) (fun b v hb z => (sb.2 b hb).trans z) hd (DO.ok ⟨?_, _, ns', fun g => ?_, fun g hg => ?_⟩)
    · have := length_putF f y fs; omega
    · show RelO ((putF f y fs).lookup g) (if g = f then some u else mA g)
      rw [lookup_putF]
      by_cases z : g = f
      · rw [if_pos z, if_pos z]; exact ry
      · rw [if_neg z, if_neg z]; exact r g
    · by_cases z : g = f
      · rw [z]; exact (keys_putF f y fs).1
      · exact (keys_putF f y fs).2 g (wi g fun z' => hg (show (if g = f then some u else mA g) = none by rw [if_neg z]; exact z'))
/-- e.f -/
def tFldX (K : PySem.W.Frag) (ta : TE) (f : Str) : TE := fun σ H Q => ta σ H fun x H1 => ∃ a C d new fs v, x = .ref a ∧ H1 a = some (XHO a C (some d) new) ∧ H1 d = some (DHO d fs) ∧ XCls K C ∧ NoAttr K C f ∧ fs.lookup f = some v ∧ Q v H1
theorem relv_nb {v : V} {u : Value} (r : RelV v u) : ∀ i, u ≠ .builtin i := fun i z => by
  subst z
  cases v with
  | non => cases (show Value.builtin i = Value.none from r)
  | bl b => cases (show Value.builtin i = Value.bool b from r)
  | int n => obtain ⟨t, e⟩ := (show ∃ t, Value.builtin i = Value.int n t from r); cases e
  | str x => obtain ⟨t, e⟩ := (show ∃ t, Value.builtin i = Value.str x t from r); cases e
  | byt b => obtain ⟨t, e⟩ := (show ∃ t, Value.builtin i = Value.bytes b t from r); cases e
  | flt b => obtain ⟨t, e⟩ := (show ∃ t, Value.builtin i = Value.float b t from r); cases e
  | ref a => cases (show Value.builtin i = Value.ref a from r)
  | ty n => cases (show Value.builtin i = Value.type n from r)
theorem pe_fldX (he : PE X e ta) (hb : attributeBase e f X.env (eval e X.env) = eval e X.env) : PE X (.Attribute e f pos) (tFldX X.K ta f) := by
  intro pins s σ H Q I h
  refine attr_of hb (thn (he pins s σ H _ I h) fun u s1 ⟨x, H1, I1, rx, a, C, d, new, fs, v, ex, ea, ed, c, n, l, q⟩ => ?_)
  subst ex
  obtain rfl : u = Value.ref a := rx
  obtain ⟨vs, sl, hx, _⟩ := I1.hok.xo ea
  obtain ⟨_, mA, ns, r, _⟩ := I1.hok.do_ ed
  obtain ⟨u', hu, ru⟩ := RelO.some_of (v := v) (o := mA f) (by rw [← l]; exact r f)
  exact EX.get_at (c.getOk I1.kIn n) hx rfl rfl rfl ns.ns hu (relv_nb ru) ⟨v, H1, I1.tok _, ru, q⟩
end
end L2
namespace L2
open PySem PySem.Spec PyProof.Rows
/-! ### C(..), an exception -/
/-- the class at C is made as a ValueError is -/
def xIn (K : PySem.W.Frag) (C : Addr) : Bool :=
  match K.lookup C with
  | some ⟨.type "type", _, .cls cd, ⟨[_, _, _, _, some (.builtin n), _]⟩⟩ => match cd.mro with
    | .ref C' :: bm => C' == C && n == "ValueError.__new__" && !cd.hasDel && PySem.W.tailIn K veMro bm
    | _ => false
  | _ => false
theorem x_cls {K : PySem.W.Frag} {h : Heap} {C : Addr} (X : K.In h) (q : xIn K C = true) : ∃ nm qn N bs bm hdct sn sub ab col dd k0 k1 k2 k3 k5,
    h.get? C = some (excClassObj nm qn C N bs bm hdct sn sub ab col dd k0 k1 k2 k3 k5 "ValueError.__new__") ∧ OwnTail h veMro bm := by
  unfold xIn at q
  split at q
  · rename_i dd cd k0 k1 k2 k3 n k5 ho
    split at q
    · rename_i C' bm hm
      simp only [Bool.and_eq_true, beq_iff_eq, Bool.not_eq_true'] at q
      obtain ⟨⟨⟨rfl, rfl⟩, hdel⟩, ht⟩ := q
      obtain ⟨nm, bs, mro, ns, qn, hd, sn, sub, ab, col, del⟩ := cd
      dsimp only at hm hdel
      subst hm
      subst hdel
      exact ⟨nm, qn, ns, bs, bm, hd, sn, sub, ab, col, dd, k0, k1, k2, k3, k5, X _ _ ho, PySem.W.tail_of_in X ht⟩
    · cases q
  · cases q
/-- with an __init__ of its own -/
structure XMk (K : PySem.W.Frag) (C f : Addr) : Prop where
  made : xIn K C = true
  init : PySem.W.findIn K (.ref C) "__init__" = some (some (.ref f))
  fn : PySem.W.isFn K (.ref f) = true
  kp : PySem.W.keepIn K (.ref C) = true
structure XMk0 (K : PySem.W.Frag) (C : Addr) : Prop where
  made : xIn K C = true
  init : PySem.W.findIn K (.ref C) "__init__" = some (some (.builtin "ValueError.__init__"))
  kp : PySem.W.keepIn K (.ref C) = true
def tMkX (C : Addr) (sp : Sp) (E : XK) (t : TA) : TE := fun σ H Q => t σ H fun vs H1 => vs.length ≤ 100 ∧ ∀ x, H1 x = none → sp (.ref x :: vs) (upd H1 x (XHO x C none true)) (fun v H2 => v = .non ∧ Q (.ref x) H2) E
def tMkX0 (C : Addr) (t : TA) : TE := fun σ H Q => t σ H fun vs H1 => vs.length ≤ 100 ∧ ∀ x, H1 x = none → Q (.ref x) (upd H1 x (XHO x C none true))
section
variable {X : Cx} {CX : CXT} {k : Nat} {f C : Addr} {fd : FuncData} {ps : List Str} {sp : Sp} {E : XK} {x m : Str} {p pos : Pos} {e : Expr} {es : List Expr} {t : TA}
theorem run_mkX {pins : List (Addr × Obj)} {σ : St} {H : Hp} {s : Shared} {Q : VK} {us : List Value} {vs : List V} (M : XMk X.K C f) (F : FnOk X.prog X.w X.K X.mg X.base CX k f fd ps sp) (hr : Room (k + 1) X.A) (hb : Binds X.K fd ps [])
    (hx : Passes CX X E) (I : Inv X pins σ H s) (r : Vals vs us) (hz : vs.length ≤ 100)
    (h : ∀ x, H x = none → sp (.ref x :: vs) (upd H x (XHO x C none true)) (fun v H2 => v = .non ∧ Q (.ref x) H2) E) :
    wpAny (model X.prog X.w) X.A (call (.ref C) us) (EP X pins σ Q) X.xe s := by
  obtain ⟨nm, qn, N, bs, bm, hdct, sn, sub, ab, col, dd, k0, k1, k2, k3, k5, hC, T⟩ := x_cls I.kIn M.made
  have hq := h (s.heap.objs.size + 1) (I.hok.fresh (Nat.le_succ _))
  have I2 : Inv X pins σ (upd H (s.heap.objs.size + 1) (XHO (s.heap.objs.size + 1) C none true)) { s with heap := EX.made s.heap C us } :=
    I.laid (a := s.heap.objs.size + 1) (t' := s.toks) EX.made_keep (Nat.le_succ _) (XO.ok ⟨_, _, EX.made_at, by simp, fun _ => rfl⟩)
  have r2 : Vals (V.ref (s.heap.objs.size + 1) :: vs) (Value.ref (s.heap.objs.size + 1) :: us) := .cons rfl r
  have hl : (Value.ref (s.heap.objs.size + 1) :: us ++ []).length = ps.length := by
    rw [List.append_nil, ← r2.length]; exact F.len _ _ _ _ hq
  have hu : us.length ≤ sizeLine := by rw [← r.length]; exact Nat.le_of_lt (small1000 (by omega))
  have bb := hb _ (Value.ref (s.heap.objs.size + 1) :: us) I2.kIn hl
  rw [List.append_nil] at bb
  obtain ⟨hh, gg, d, tk, os⟩ := s
  refine EX.exc_call PySem.F.excBase_ValueError T hC (PySem.W.looks_findIn I.kIn M.init) (PySem.W.looks_typeIn I.kIn (beq_iff_eq.mp M.fn)) hu ?_
  refine wpAny_call (codeAny_mono (F.run _ X.stack _ _ ⟨Value.ref (hh.objs.size + 1) :: us, []⟩ _ _ _ E (hr.make C us []) (I2.env0.make C us []) bb r2 hq) fun r s' hq' => ?_)
  cases r with
  | error e => exact hx pins σ _ _ e s' I2 hq'
  | ok fl =>
    cases fl with
    | ret u =>
      obtain ⟨v, H', I3, rv, ev, q3⟩ := I2.after hq'
      subst ev
      exact ⟨rv, ⟨V.ref (hh.objs.size + 1), H', I3, rfl, q3⟩⟩
    | next => exact False.elim hq'
    | brk => exact False.elim hq'
    | cont => exact False.elim hq'
theorem pe_mkX (M : XMk X.K C f) (F : FnOk X.prog X.w X.K X.mg X.base CX k f fd ps sp) (hr : Room (k + 1) X.A) (hg : Gl X x) (hm : X.mg x = some (.ref C)) (hb : Binds X.K fd ps []) (hx : Passes CX X E)
    (ha : PA X (e :: es) t) (hdb : (x == ("__debug__" : Str)) = false := by decide) (he : starEach (e :: es) X.env = (false, eval e X.env) :: starEach es X.env := by rfl) (hpl : (backTo pos (starEach es X.env)).any (·.1) = false := by rfl) :
    PE X (.Call (.Name x p) (e :: es) [] pos) (tMkX C sp E t) := by
  intro pins s σ H Q I h
  refine wpAny_Call_Name_kw (ld_glob I hg hm ?_ hdb)
  exact PySem.W.callWith_K (h₀ := X.base) I.ok.mod.kin M.kp (thn (ha pos pins s σ H _ I h) fun us s1 ⟨vs, H1, I1, r, z, q⟩ => ⟨I1.kIn, run_mkX M F hr hb hx I1 r z q⟩) he hpl
theorem pe_mkX0 (M : XMk0 X.K C) (hg : Gl X x) (hm : X.mg x = some (.ref C))
    (ha : PA X (e :: es) t) (hdb : (x == ("__debug__" : Str)) = false := by decide) (he : starEach (e :: es) X.env = (false, eval e X.env) :: starEach es X.env := by rfl) (hpl : (backTo pos (starEach es X.env)).any (·.1) = false := by rfl) :
    PE X (.Call (.Name x p) (e :: es) [] pos) (tMkX0 C t) := by
  intro pins s σ H Q I h
  refine wpAny_Call_Name_kw (ld_glob I hg hm ?_ hdb)
  refine PySem.W.callWith_K (h₀ := X.base) I.ok.mod.kin M.kp (thn (ha pos pins s σ H _ I h) fun us s1 ⟨vs, H1, I1, r, z, q⟩ => ⟨I1.kIn, ?_⟩) he hpl
  obtain ⟨nm, qn, N, bs, bm, hdct, sn, sub, ab, col, dd, k0, k1, k2, k3, k5, hC, T⟩ := x_cls I1.kIn M.made
  have hu : us.length ≤ sizeLine := by rw [← r.length]; exact Nat.le_of_lt (small1000 (by omega))
  obtain ⟨hh, gg, d, tk, os⟩ := s1
  refine EX.exc_call0 PySem.F.excBase_ValueError T hC (PySem.W.looks_findIn I1.kIn M.init) hu fun h' t' k e1 => ?_
  exact ⟨.ref (hh.objs.size + 1), _, I1.laid (a := hh.objs.size + 1) (t' := tk) k (Nat.le_succ _) (XO.ok ⟨_, _, e1, by simp, fun _ => rfl⟩), rfl, q _ (I1.hok.fresh (Nat.le_succ _))⟩
end
/-! ### try: .. raise ..; except D as n: .. -/
/-- within a try: an exception must be as W says -/
def Cx.tr (X : Cx) (pn : List (Addr × Obj)) (W : St → Hp → Addr → Addr → Option Addr → Prop) : Cx := { X with pn := pn, xe := fun v s' => ∃ e σ' H' C od, v = .ref e ∧ Inv { X with pn := pn } [] σ' H' s' ∧ H' e = some (XHO e C od true) ∧ W σ' H' e C od }
/-- within the except suite -/
def Cx.ec (X : Cx) (e : Addr) : Cx := { X with A := X.A.mark (some (.ref e)), calm := false, xe := fun _ _ => False }
section
variable {X : Cx} {pins pn : List (Addr × Obj)} {σ : St} {H : Hp} {s : Shared} {e : Addr} {W : St → Hp → Addr → Addr → Option Addr → Prop}
theorem Inv.toPn (I : Inv X pins σ H s) : Inv { X with pn := X.pn ++ pins } [] σ H s :=
  ⟨⟨I.ok.mod, I.ok.kind, I.ok.glob, I.ok.blt, I.ok.above, I.ok.inj, I.ok.has, I.ok.cab, I.ok.hd, I.ok.frames, I.ok.stk, I.ok.exf, I.ok.bs, I.ok.bsz, I.ok.noex, I.ok.exfs, I.ok.funs, I.ok.frf⟩, I.os, I.bare, I.base, I.loc, I.cell, I.free, I.freeC,
    fun p hp => I.pin p (by simpa using hp), I.hok, I.len⟩
theorem Inv.ofPn (I : Inv { X with pn := X.pn ++ pins } [] σ H s) : Inv X pins σ H s :=
  ⟨⟨I.ok.mod, I.ok.kind, I.ok.glob, I.ok.blt, I.ok.above, I.ok.inj, I.ok.has, I.ok.cab, I.ok.hd, I.ok.frames, I.ok.stk, I.ok.exf, I.ok.bs, I.ok.bsz, I.ok.noex, I.ok.exfs, I.ok.funs, I.ok.frf⟩, I.os, I.bare, I.base, I.loc, I.cell, I.free, I.freeC,
    fun p hp => I.pin p (by simpa using hp), I.hok, I.len⟩
theorem Inv.toTr (I : Inv { X with pn := pn } pins σ H s) : Inv (X.tr pn W) pins σ H s := I.wish _
theorem Inv.ofTr (I : Inv (X.tr pn W) pins σ H s) : Inv { X with pn := pn } pins σ H s := (show Inv ({ X with pn := pn } : Cx) pins σ H s from Inv.unwish (X := { X with pn := pn }) I)
theorem Inv.toEc (I : Inv X pins σ H s) : Inv (X.ec e) pins σ H s :=
  ⟨⟨I.ok.mod, I.ok.kind, I.ok.glob, I.ok.blt, I.ok.above, I.ok.inj, I.ok.has, I.ok.cab, (fun z => nomatch z), I.ok.frames, I.ok.stk, I.ok.exf, I.ok.bs, I.ok.bsz, I.ok.noex, I.ok.exfs, I.ok.funs, I.ok.frf⟩, I.os, I.bare, I.base, I.loc, I.cell, I.free, I.freeC,
    I.pin, I.hok, I.len⟩
theorem Inv.ofEc (ok : X.Ok) (I : Inv (X.ec e) pins σ H s) : Inv X pins σ H s := ⟨ok, I.os, I.bare, I.base, I.loc, I.cell, I.free, I.freeC, I.pin, I.hok, I.len⟩
end
/-- raise e -/
def tRaise (K : PySem.W.Frag) (W : St → Hp → Addr → Addr → Option Addr → Prop) (te : TE) : TS := fun _ σ H => te σ H fun v H1 => ∃ a C od, v = .ref a ∧ H1 a = some (XHO a C od true) ∧ XCls K C ∧ W σ H1 a C od
theorem ps_raise {X : Cx} {pn : List (Addr × Obj)} {W : St → Hp → Addr → Addr → Option Addr → Prop} {e : Expr} {pos : Pos} {te : TE} (he : PE (X.tr pn W) e te) (hc : X.calm = true) : PS (X.tr pn W) (.Raise (some e) none pos) (tRaise X.K W te) := by
  intro pins s σ H D I h
  rw [arm_exec_Raise]
  refine wpAny_bind (wpAny_standAt (EX.raise_at (I.ok.hd hc) ?_))
  refine wpAny_bind (thn (he pins s σ H _ I h) fun v s1 ⟨x, H1, I1, rx, a, C, od, ex, ea, c, q⟩ => wpAny_bind (wpAny_standAt (wpAny_pure ?_)))
  subst ex
  obtain rfl : v = Value.ref a := rx
  obtain ⟨vs, sl, hx, z1, z2⟩ := I1.hok.xo ea
  refine ⟨a, C, _, vs, rfl, hx, rfl, rfl, z2 rfl, PySem.W.looks_mroIn I1.kIn c.be, PySem.W.looks_typeIn I1.kIn c.ty, a, σ, H1, C, od, rfl, ?_, ea, q⟩
  exact I1.ofTr.pins_of fun p hp => absurd hp (by simp)
end L2
namespace L2
open PySem PySem.Spec PyProof.Rows
section
variable {X : Cx} {pins : List (Addr × Obj)} {σ : St} {H : Hp} {s : Shared}
/-- behind an except suite its name is no more -/
theorem gone_ok {M : Model} {A : Around} {E : Value → Shared → Prop} {i : Nat} {n : Str} {pos : Pos} {Q : Unit → Shared → Prop} (I : Inv X pins σ H s) (hN : X.N.Nodup) (hi : X.N[i]? = some n) (hk : X.env.kindOf n = some .local)
    (h : ∀ s', Inv X pins (σ.set i none) H s' → Q () s') : wpAny M A (do bindName X.env n .none; unbindBehindTheSuite X.env n pos) Q E s := by
  obtain ⟨m, hn, hl⟩ := id I.loc
  have hcls : (X.env.scope.kind == .class || (X.env.scope.kind == .module && X.env.locals != X.env.globals)) = false := by rw [I.ok.kind]; rfl
  have hiσ : i < σ.length := by rw [I.len]; exact (List.getElem?_eq_some_iff.mp hi).1
  obtain ⟨oL, _, _, hoL, _⟩ := id hn
  refine wpAny_nameGoes_keeps hk hn hcls fun h' v hn' hs => ?_
  have ne : ∀ b o, X.s₀.heap.get? b = some o → b ≠ X.env.locals := fun b o e => Nat.ne_of_lt (Nat.lt_of_lt_of_le (Heap.lt_size e) I.ok.above)
  have hok : HOk X.prog X.w H h' := fun b ob e => by
    refine (I.hok b ob e).stay (fun c w' hc q => (hs.2 c ?_).trans q) (fun _ q => q) fun _ _ q => q
    rintro rfl
    rcases hc with rfl | hc
    · rw [I.free] at e; cases e
    · rw [I.free] at hc; cases hc
  refine h _ ⟨I.ok, I.os, I.bare, ⟨fun b o e n hb hx => ?_, fun b o e n hb hx => ?_, I.base.free, fun b o e hx => ?_, I.base.tups, I.base.frzs, I.base.tbls⟩, ⟨_, hn', fun j y v' e1 e2 e3 => ?_⟩, fun y c e => ?_, I.free, I.freeC, fun p hp => ?_, hok, by simpa using I.len⟩
  · exact (hs.2 b (ne b o e)).trans (I.base.keep b o e n hb hx)
  · obtain ⟨sl, e1⟩ := I.base.slot b o e n hb hx
    exact ⟨sl, (hs.2 b (ne b o e)).trans e1⟩
  · obtain ⟨o', e1⟩ := I.base.there b o e hx
    exact ⟨o', (hs.2 b (ne b o e)).trans e1⟩
  · by_cases hj : j = i
    · subst hj
      rw [List.getElem?_set_self hiσ] at e2
      cases e2
    · rw [List.getElem?_set_ne (Ne.symm hj)] at e2
      obtain ⟨u', r', q⟩ := hl j y v' e1 e2 e3
      refine ⟨u', r', ?_⟩
      rcases q with ⟨k, e⟩ | ⟨k, c, e, z⟩
      · refine .inl ⟨k, ?_⟩
        have : y ≠ n := fun e => hj (nodup_ix hN e1 (e ▸ hi))
        simp [this, e]
      · exact .inr ⟨k, c, e, z.sameBut hs (I.cne y c e)⟩
  · obtain ⟨w', z⟩ := I.cell y c e
    exact ⟨w', z.sameBut hs (I.cne y c e)⟩
  · obtain ⟨e, n, ne, nf, d⟩ := I.pin p hp
    exact ⟨(hs.2 p.1 ne).trans e, n, ne, nf, d⟩
/-- the frames that run have noted the exception at e, and it flies no more -/
theorem Inv.noted {e C T : Addr} {od : Option Addr} {new : Bool} {h1 h2 : Heap} {oe : Obj} (I : Inv X pins σ H s) (ea : H e = some (XHO e C od new)) (N : EX.Noted X.stack e T oe s.heap h1) (k : ∀ b, b ≠ T → h2.get? b = h1.get? b)
    (x : XO e C od false h2) : Inv X pins σ (upd H e (XHO e C od false)) { s with heap := h2 } := by
  have nT : ∀ b o, s.heap.get? b = some o → b ≠ T := fun b o q z => Nat.lt_irrefl _ (Nat.lt_of_lt_of_le (Heap.lt_size (z ▸ q)) N.new)
  have ne : ∀ {b}, H b = none → b ≠ e := fun q z => by rw [z, ea] at q; cases q
  have keep : ∀ b o, b ≠ e → b ∉ frs X.stack → s.heap.get? b = some o → h2.get? b = some o := fun b o hb hf q => (k b (nT b o q)).trans (N.keep b o hb hf q)
  have slot : ∀ b o, b ≠ e → s.heap.get? b = some o → ∃ sl, h2.get? b = some { o with slots := sl } := fun b o hb q => by
    obtain ⟨sl, z⟩ := N.slot b o hb q
    exact ⟨sl, (k b (nT b o q)).trans z⟩
  refine I.call (ch := []) (g' := s.gens) (d' := s.drawn) (t' := s.toks) ⟨fun b o q n hf _ => keep b o (ne n) hf q, fun b o q n _ _ => slot b o (ne n) q, fun b o q n _ => ?_, fun b o q _ => ?_, fun b xs q => ?_, fun b o u q => ?_, fun b p q => ⟨#[], ?_⟩⟩ (fun b u q => ?_) I.bare (fun b z => absurd z (by simp))
  · rw [upd_ne (ne n)]; exact n
  · by_cases z : b = e
    · subst z; obtain ⟨vs, sl, q', _⟩ := x; exact ⟨_, q'⟩
    · obtain ⟨sl, q'⟩ := slot b o z q; exact ⟨_, q'⟩
  · rw [upd_ne (ext_ne ea q fun _ z => nomatch z)]; exact q
  · rw [upd_ne (ext_ne ea q fun _ z => nomatch z)]; exact q
  · rw [upd_ne (ext_ne ea q fun _ z => nomatch z), q]; simp
  · by_cases z : b = e
    · subst z; rw [upd_same] at q; cases q; exact x.ok
    · rw [upd_ne z] at q
      have nf : ∀ {c u}, H c = some u → c ∉ frs X.stack := fun q' hf => by rw [I.stkFree _ hf] at q'; cases q'
      refine (I.hok b u q).stay (fun c w' hc r => ?_) (fun c r => ?_) fun c xs r => ?_
      · rcases hc with hc | hc
        · subst hc; exact keep c w' z (nf q) r
        · exact keep c w' (ext_ne ea hc fun _ y => nomatch y) (nf hc) r
      · rw [upd_ne (ext_ne ea r fun _ y => nomatch y)]; exact r
      · rw [upd_ne (ext_ne ea r fun _ y => nomatch y)]; exact r
end
def Ends.less (D : Ends) (i : Nat) : Ends := { nx := fun σ H => D.nx (σ.set i none) H, rt := D.rt, bk := fun σ H => D.bk (σ.set i none) H, ct := fun σ H => D.ct (σ.set i none) H }
def tTry (K : PySem.W.Frag) (D0 : Addr) (W : St → Hp → Addr → Addr → Option Addr → Prop) (i : Nat) (tb th : TS) : TS := fun D σ H => tb D σ H ∧ ∀ σ' H' e C od, H' e = some (XHO e C od true) → W σ' H' e C od →
  PySem.W.mroIn K C (.ref D0) = some true ∧ th (D.less i) (σ'.set i (some (.ref e))) (upd H' e (XHO e C od false))
section
variable {X : Cx} {W : St → Hp → Addr → Addr → Option Addr → Prop}
theorem is_type_in {K : PySem.W.Frag} {M : Model} {h : Heap} {C : Addr} (k : K.In h) (e : (PySem.W.clsIn K C).isSome = true) : EX.Lk M h (isType (.ref C)) true := by
  unfold PySem.W.clsIn at e
  split at e
  · rename_i ho; exact EX.is_cls (k _ _ ho) rfl
  · cases e
theorem ps_tryAs {D0 : Addr} {i : Nat} {n cls : Str} {body suite : List Stmt} {b₀ : Stmt} {p hp pos : Pos} {tb th : TS} (hb : ∀ pn, PSs (X.tr pn W) body tb) (hh : ∀ e, PSs (X.ec e) (b₀ :: suite) th) (hst : X.stack = X.env :: X.outer)
    (hfr : X.env.frame = some X.env.locals) (hg : Gl X cls) (hm : X.mg cls = some (.ref D0)) (dc : XCls X.K D0) (di : (PySem.W.clsIn X.K D0).isSome = true) (hN : X.N.Nodup) (hi : X.N[i]? = some n) (hx : X.env.scope.names.lookup n = some .local)
    (hdb : (cls == ("__debug__" : Str)) = false := by decide) :
    PS X (.Try body [.ExceptHandler (some (.Name cls p)) (some n) (b₀ :: suite) hp] [] [] pos) (tTry X.K D0 W i tb th) := by
  intro pins s σ H D I ⟨h1, h2⟩
  refine wpAny_Try_except (wpAny_mono (hb (X.pn ++ pins) [] s σ H D I.toPn.toTr h1) (fun f s1 q => ?_) fun v s1 q => ?_)
  · cases f with
    | next => obtain ⟨σ', H', I', q⟩ := q; exact wpAny_execs_nil ⟨σ', H', I'.ofTr.ofPn, q⟩
    | ret u => obtain ⟨v, σ', H', I', r, q⟩ := q; exact ⟨v, σ', H', I'.ofTr.ofPn, r, q⟩
    | brk => obtain ⟨σ', H', I', q⟩ := q; exact ⟨σ', H', I'.ofTr.ofPn, q⟩
    | cont => obtain ⟨σ', H', I', q⟩ := q; exact ⟨σ', H', I'.ofTr.ofPn, q⟩
  · obtain ⟨e, σ', H', C, od, rfl, I1, ea, hw⟩ := q
    have I1 : Inv X pins σ' H' s1 := I1.ofPn
    obtain ⟨vs, sl, hx1, z1, z2⟩ := I1.hok.xo ea
    obtain ⟨hm1, hth⟩ := h2 σ' H' e C od ea hw
    have fr : X.A.frames = some (X.env :: X.outer) := by rw [I1.ok.frames, hst]
    have hl : s1.heap.FunFrames X.base (X.env :: X.outer) := by rw [← hst]; exact I1.stack
    refine EX.note_new fr hl hfr hx1 rfl (z2 rfl) fun g1 T N => ?_
    have e1 : g1.get? e = some ⟨.ref C, od, .fields (vs.setIfInBounds 1 (.ref T)), sl⟩ := N.exc
    have v1 : (vs.setIfInBounds 1 (.ref T))[1]? = some (.ref T) := by simp [z1]
    obtain ⟨oT, ts, hT, hdT, hz3⟩ := N.tb
    refine EX.flight_off (s := { s1 with heap := g1 }) e1 rfl v1 hT hdT hz3 fun g2 k2 tb2 => ?_
    have nT : ∀ b o, s1.heap.get? b = some o → b ≠ T := fun b o q z => Nat.lt_irrefl _ (Nat.lt_of_lt_of_le (Heap.lt_size (z ▸ q)) N.new)
    have e2 : g2.get? e = some ⟨.ref C, od, .fields (vs.setIfInBounds 1 (.ref T)), sl⟩ := (k2 e (nT _ _ hx1)).trans e1
    have I2 : Inv X pins σ' (upd H' e (XHO e C od false)) { s1 with heap := g2 } := I1.noted (T := T) ea (by rw [hst]; exact N) k2 ⟨_, sl, e2, by simp [z1], fun z => nomatch z⟩
    refine EX.handle_at (D := D0) (C := C) (ld_glob (X := X.ec e) I2.toEc hg hm ⟨rfl, PySem.W.looks_typeIn I2.kIn dc.ty, is_type_in I2.kIn di, PySem.W.looks_mroIn I2.kIn dc.be, EX.type_at e2 rfl, PySem.W.looks_mroIn I2.kIn hm1, ?_⟩ hdb)
    obtain ⟨oT', ts', hT', hdT', hz'⟩ := tb2
    refine EX.flight_off (s := { s1 with heap := g2 }) e2 rfl v1 hT' hdT' hz' fun g3 k3 _ => ?_
    have hTn : upd H' e (XHO e C od false) T = none := by
      rw [upd_ne (Ne.symm (nT _ _ hx1))]; exact I1.hok.fresh N.new
    have I3 : Inv X pins σ' (upd H' e (XHO e C od false)) { s1 with heap := g3 } := by
      refine Inv.turned (s := { s1 with heap := g2 }) (it := T) (h' := g3) (t' := s1.toks) I2 (fun b o hb q => (k3 b hb).trans q) hTn (Nat.ne_of_gt (Nat.lt_of_lt_of_le I1.lt N.new)) (.inr (Nat.le_trans I1.sz N.new)) (fun y c q => ?_) fun y hy => ?_
      · obtain ⟨v, o, ho, _⟩ := I1.cell y c q
        exact nT c o ho
      · exact nT y.1 y.2 (I1.pin y hy).1
    refine store_ok (X := X.ec e) I3.toEc hN hi (.inl hx) (show RelV (.ref e) (.ref e) from rfl) (fun s4 I4 => ?_) (.inr hx)
    refine wpAny_mono (hh e pins s4 _ _ (D.less i) I4 hth) (fun f s5 q => ?_) fun _ _ z => z
    cases f with
    | next => obtain ⟨σ5, H5, I5, q⟩ := q; exact gone_ok (I5.ofEc I1.ok) hN hi hx fun s6 I6 => ⟨_, H5, I6, q⟩
    | ret u => obtain ⟨v, σ5, H5, I5, r, q⟩ := q; exact gone_ok (I5.ofEc I1.ok) hN hi hx fun s6 I6 => ⟨v, _, H5, I6, r, q⟩
    | brk => obtain ⟨σ5, H5, I5, q⟩ := q; exact gone_ok (I5.ofEc I1.ok) hN hi hx fun s6 I6 => ⟨_, H5, I6, q⟩
    | cont => obtain ⟨σ5, H5, I5, q⟩ := q; exact gone_ok (I5.ofEc I1.ok) hN hi hx fun s6 I6 => ⟨_, H5, I6, q⟩
end
section
variable {X : Cx}
theorem ps_tryI (W : St → Hp → Addr → Addr → Option Addr → Prop) (i : Nat) {D0 : Addr} {n cls : Str} {body suite : List Stmt} {b₀ : Stmt} {p hp pos : Pos} {tb th : TS} (hb : ∀ pn, PSs (X.tr pn W) body tb) (hh : ∀ e, PSs (X.ec e) (b₀ :: suite) th)
    (hst : X.stack = X.env :: X.outer) (hfr : X.env.frame = some X.env.locals) (hg : Gl X cls) (hm : X.mg cls = some (.ref D0)) (dc : XCls X.K D0) (di : (PySem.W.clsIn X.K D0).isSome = true) (hN : X.N.Nodup) (hi : X.N[i]? = some n)
    (hx : X.env.scope.names.lookup n = some .local) (hdb : (cls == ("__debug__" : Str)) = false := by decide) :
    PS X (.Try body [.ExceptHandler (some (.Name cls p)) (some n) (b₀ :: suite) hp] [] [] pos) (tTry X.K D0 W i tb th) := ps_tryAs hb hh hst hfr hg hm dc di hN hi hx hdb
end
/-! ### isinstance of an exception -/
theorem XCls.here {K : PySem.W.Frag} {C : Addr} (c : XCls K C) : (PySem.W.clsIn K C).isSome = true := by
  obtain ⟨cd, e, _⟩ := PySem.W.any_some c.hd
  rw [e]; rfl
theorem kitx_exc {K : PySem.W.Frag} {x C : Addr} (c : XCls K C) : PySem.W.KitX K (.ref x) (.ref C) (fun h => ∃ o od, PySem.W.InstAt h x o C od) where
  ty := fun M h X ⟨o, od, I⟩ => I.type
  it := fun M h X _ => is_type_in X c.here
  ne := fun h tp dd its n sl X htp => by
    refine Bool.eq_false_iff.mpr fun q => ?_
    have e : C = tp := Value.ref.inj (beq_iff_eq.mp q)
    subst e
    have hs := c.here
    unfold PySem.W.clsIn at hs
    split at hs
    · rename_i ho
      have z := X _ _ ho
      rw [htp] at z
      cases z
    · cases hs
  ca := fun X ⟨o, od, I⟩ k => EX.class_at X I c.ga c.hk c.be c.ob (EX.find_class c.here c.ca c.gs c.tk) k
/-- it is an exception of the class at C -/
def IsX (H : Hp) (a C : Addr) : Prop := ∃ od new, H a = some (XHO a C od new) ∧ ∀ d, od = some d → ∃ fs, H d = some (DHO d fs)
theorem IsX.inst {P : Program} {w : World} {H : Hp} {h : Heap} {a C : Addr} (x : IsX H a C) (ok : HOk P w H h) : ∃ o od, PySem.W.InstAt h a o C od := by
  obtain ⟨od, new, ea, hd⟩ := x
  obtain ⟨vs, sl, e, _⟩ := ok.xo ea
  cases od with
  | none => exact ⟨_, none, e, rfl, rfl, trivial⟩
  | some d =>
    obtain ⟨fs, ed⟩ := hd d rfl
    obtain ⟨_, mA, ⟨o, es, ep, ho, _⟩, _⟩ := ok.do_ ed
    exact ⟨_, some o, e, rfl, rfl, ho⟩
theorem valsRefs : ∀ {ds : List Addr} {us : List Value}, Vals (ds.map V.ref) us → us = ds.map Value.ref
  | [], _, .nil => rfl
  | d :: ds, _, .cons r t => by rw [valsRefs t, show _ = Value.ref d from r]; rfl
section
variable {X : Cx}
theorem call_isiX : CallR X (.builtin "isinstance") (fun xs H Q => ∃ a C D b, xs = [.ref a, .ref D] ∧ IsX H a C ∧ XCls X.K C ∧ PySem.W.kitOne X.K (.ref C) (.ref D) = some b ∧ Q (.bl b) H) := by
  intro pins s σ H xs us Q I r h
  obtain ⟨a, C, D, b, rfl, ix, c, e, q⟩ := h
  obtain ⟨u, w', rfl, rx, ry⟩ := vals2 r
  cases rx; cases ry
  exact PySem.W.kia_one (kitx_exc c) I.kIn (ix.inst I.hok) e (fun z => nomatch z) fun tk => ⟨.bl b, H, I.tok _, rfl, q⟩
theorem call_isiXB : CallR X (.builtin "isinstance") (fun xs H Q => ∃ a C T b, xs = [.ref a, .ty T] ∧ IsX H a C ∧ XCls X.K C ∧ PySem.W.kitOne X.K (.ref C) (.type T) = some b ∧ Q (.bl b) H) := by
  intro pins s σ H xs us Q I r h
  obtain ⟨a, C, T, b, rfl, ix, c, e, q⟩ := h
  obtain ⟨u, w', rfl, rx, ry⟩ := vals2 r
  cases rx; cases ry
  exact PySem.W.kia_one (kitx_exc c) I.kIn (ix.inst I.hok) e (fun z => nomatch z) fun tk => ⟨.bl b, H, I.tok _, rfl, q⟩
theorem call_isiXT : CallR X (.builtin "isinstance") (fun xs H Q => ∃ (a C p : Addr) (ds : List Addr) (b : Bool), xs = [.ref a, .ref p] ∧ H p = some (.tup (ds.map V.ref)) ∧ IsX H a C ∧ XCls X.K C ∧ PySem.W.kitAny X.K (.ref C) (ds.map Value.ref) = some b ∧ Q (.bl b) H) := by
  intro pins s σ H xs us Q I r h
  obtain ⟨a, C, p, ds, b, rfl, hp, ix, c, e, q⟩ := h
  obtain ⟨u, w', rfl, rx, ry⟩ := vals2 r
  cases rx; cases ry
  obtain ⟨_, its, rv, o, ho, hc, n, hd⟩ := (show ObjOk X.prog X.w H s.heap p (.tup (ds.map V.ref)) from I.hok p _ hp)
  rw [valsRefs rv] at hd
  obtain ⟨oc, od, dt, sl⟩ := o
  obtain rfl : oc = _ := hc
  obtain rfl : dt = _ := hd
  exact PySem.W.kia_tup (kitx_exc c) I.kIn (ix.inst I.hok) ho e (fun z => nomatch z) fun tk => ⟨.bl b, H, I.tok _, rfl, q⟩
end
end L2
namespace L2
open PySem PySem.Spec PyProof.Rows
section
variable {X : Cx}
/-- // by a positive divisor of any usual size -/
theorem op_fdivL : OpR X (binaryOp .FloorDiv) (rI (fun _ j => 0 < j ∧ j.natAbs.log2 < 9000) fun i j => .int (i / j)) := opI fun i j _ _ _ _ _ hc q => by
  have h1 : (0 : Int) < j := hc.1
  exact floordiv_int (by omega) (by rw [Int.fdiv_eq_ediv_of_nonneg i (by omega)]; exact q) (.inl (PyProof.noPylong_of_log2 hc.2))
/-- (x,) * 0, 1, 2 -/
def rRepT : R2 := fun x y H Q => ∃ l k v, x = .ref l ∧ y = .int k ∧ H l = some (.tup [v]) ∧
  ((k = 1 ∧ Q (.ref l) H) ∨ (k = 0 ∧ ∀ p, H p = none → Q (.ref p) (upd H p (.tup []))) ∨ (k = 2 ∧ ∀ p, H p = none → Q (.ref p) (upd H p (.tup [v, v]))))
theorem op_repT : OpR X (binaryOp .Mult) rRepT := by
  intro pins s σ H x y v u Q I rx ry h
  obtain ⟨l, k, a, rfl, rfl, hH, q⟩ := h
  cases rx
  obtain ⟨t, rfl⟩ := ry
  obtain ⟨_, its, rv, o, ho, hc, n, hd⟩ := (show ObjOk X.prog X.w H s.heap l (.tup [a]) from I.hok l _ hH)
  obtain ⟨b, rfl, rb⟩ := rv.one
  obtain ⟨oc, od, dt, sl⟩ := o
  obtain rfl : oc = _ := hc
  obtain rfl : dt = _ := hd
  have hT : s.TypeIs (.ref l) "tuple" := ⟨_, ho, rfl⟩
  refine wpAny_binaryOp_repeat_ref (T := "tuple") (U := "int") (by decide) hT (fun s' => typeIs_int s' k t) TupR.noFill F.fills_int_mul F.slot_int_rmul TupR.rep F.slot_int_index.lookup
    (call_meets F.slot_int_rmul (typeIs_int s k t) F.entry_int_rmul (F.args_int_rmul_2 _ _) (TupR.declines k t l _ n od sl) ⟨ho, rfl, hT, ?_⟩)
  rcases q with ⟨rfl, q⟩ | ⟨rfl, q⟩ | ⟨rfl, q⟩
  · exact call_meets F.slot_tuple_mul hT F.entry_tuple_mul (F.args_tuple_mul_2 _ _) (TupR.rep1 l b n t od sl) ⟨ho, ⟨.ref l, H, I, rfl, q⟩⟩
  · refine call_meets F.slot_tuple_mul hT F.entry_tuple_mul (F.args_tuple_mul_2 _ _) (TupR.rep0 l b n t od sl) ⟨ho, ⟨.ref _, _, I.laid (t' := s.toks) (fun b u e => Heap.get?_push_of_some _ e) (Nat.le_refl _) ?_, rfl, q _ (I.hok.fresh (Nat.le_refl _))⟩⟩
    exact ⟨Nat.zero_le _, [], .nil, ⟨_, Heap.get?_push_size _ rfl, rfl, _, rfl⟩⟩
  · refine call_meets F.slot_tuple_mul hT F.entry_tuple_mul (F.args_tuple_mul_2 _ _) (TupR.rep2 l b n t od sl) ⟨ho, ⟨.ref _, _, I.laid (t' := s.toks) (fun b u e => Heap.get?_push_of_some _ e) (Nat.le_refl _) ?_, rfl, q _ (I.hok.fresh (Nat.le_refl _))⟩⟩
    exact ⟨by show 2 ≤ sizeLine; decide, [b, b], .cons rb (.cons rb .nil), ⟨_, Heap.get?_push_size _ rfl, rfl, _, rfl⟩⟩
theorem vals_bools : ∀ {bs : List Bool} {us : List Value}, Vals (bs.map V.bl) us → us = bs.map Value.bool
  | [], _, .nil => rfl
  | b :: bs, _, .cons r t => by rw [vals_bools t, show _ = Value.bool b from r]; rfl
/-- bools.count(b) -/
theorem mt_countB : MtM X "list.count" (fun x xs H Q => ∃ (l : Addr) (bs : List Bool) (b : Bool), x = .ref l ∧ xs = [.bl b] ∧ H l = some (.lst (bs.map V.bl)) ∧ Q (.int (bs.countP (· == b) : Nat)) H) := by
  intro pins s σ H x vs v us Q I rx rv h
  obtain ⟨l, bs, b, rfl, rfl, hH, q⟩ := h
  cases rx
  obtain ⟨u, rfl, ru⟩ := rv.one
  cases ru
  obtain ⟨z, its, n, r, hl, e⟩ := I.lstM hH
  have ei := vals_bools r
  subst ei
  refine call_meets F.slot_list_count ⟨_, e, rfl⟩ F.entry_list_count (F.args_list_count_2 _ _) (SeqAt.list_countAt l _ n none #[] (.bool b) (fun y => match y with | .bool c => c == b | _ => false)) ⟨e, fun y hy => ?_, ?_⟩
  · have hy' : y ∈ bs.map Value.bool := by simpa using hy
    obtain ⟨c, _, rfl⟩ := List.mem_map.mp hy'
    exact SeqAt.EqAt.bool_bool c b
  · have e2 : (bs.map Value.bool).toArray.toList.countP (fun y => match y with | .bool c => c == b | _ => false) = bs.countP (· == b) := by
      rw [List.toList_toArray, List.countP_map]; rfl
    rw [e2]
    exact ⟨.int _, H, I.tok _, ⟨_, rfl⟩, q⟩
end
end L2
namespace K97
open PySem PySem.Spec PyProof.Rows L2
def top (i : Nat) : Stmt := PySem.Challenge.pw_makes_k97_refusals_apart.main.body.getD i (.Pass ⟨0, 0, 0, 0⟩)
theorem b_len : bootBuiltins "len" = some (.builtin "len") := by decide +kernel
theorem b_max : bootBuiltins "max" = some (.builtin "max") := by decide +kernel
theorem b_isinstance : bootBuiltins "isinstance" = some (.builtin "isinstance") := by decide +kernel
theorem b_ValueError : bootBuiltins "ValueError" = some (.type "ValueError") := by decide +kernel
structure Bn (mg : Str → Option Value) : Prop where
  len : mg "len" = none
  max : mg "max" = none
  isinstance : mg "isinstance" = none
  ValueError : mg "ValueError" = none
  range : mg "range" = none
theorem iteN {b : Bool} {A B : Prop} (h : b = false) (q : B) : if b = true then A else B := by subst h; exact iteF q
theorem iteY {b : Bool} {A B : Prop} (h : b = true) (q : A) : if b = true then A else B := by subst h; exact iteT q
/-- the fields of the k-th exception -/
def fl (n w p : V) : Nat → List (Str × V)
  | 0 => [("at", n)]
  | 1 => [("step", n)]
  | 2 => [("at", n)]
  | 3 => [("path", p)]
  | 4 => [("word", w)]
  | 5 => [("one", w), ("other", .str "b"), ("word", .str "read")]
  | 6 => [("word", w)]
  | 7 => [("number", n)]
  | _ => []
def allF : List Str := ["at", "step", "path", "word", "one", "other", "number"]
/-- the ten classes -/
structure Exs (K : PySem.W.Frag) (mg : Str → Option Value) (M : Addr) (c : Nat → Addr) : Prop where
  xm : XCls K M
  xc : ∀ k, k < 10 → XCls K (c k)
  sub : ∀ j k, j < 10 → k < 10 → PySem.W.kitOne K (.ref (c j)) (.ref (c k)) = some (decide (j = k))
  ve : ∀ k, k < 10 → PySem.W.kitOne K (.ref (c k)) (.type "ValueError") = some true
  mro : ∀ k, k < 10 → PySem.W.mroIn K (c k) (.ref M) = some true
  no : ∀ k, k < 10 → ∀ f ∈ allF, NoAttr K (c k) f
  MakeError : mg "MakeError" = some (.ref M)
  BadByte : mg "BadByte" = some (.ref (c 0))
  NoPlace : mg "NoPlace" = some (.ref (c 1))
  BadText : mg "BadText" = some (.ref (c 2))
  BadItem : mg "BadItem" = some (.ref (c 3))
  BadDeed : mg "BadDeed" = some (.ref (c 4))
  NoTable : mg "NoTable" = some (.ref (c 5))
  NoMove : mg "NoMove" = some (.ref (c 6))
  NoFile : mg "NoFile" = some (.ref (c 7))
  NoValue : mg "NoValue" = some (.ref (c 8))
  NoRow : mg "NoRow" = some (.ref (c 9))
/-- the k-th exception, caught -/
def XF (c : Nat → Addr) (H : Hp) (e : Addr) (n w p : V) (k : Nat) : Prop := ∃ od, H e = some (XHO e (c k) od false) ∧ ((k < 8 ∧ ∃ d, od = some d ∧ H d = some (DHO d (fl n w p k))) ∨ (8 ≤ k ∧ od = none))
theorem XF.isX {c : Nat → Addr} {H : Hp} {e : Addr} {n w p : V} {k : Nat} (x : XF c H e n w p k) : IsX H e (c k) := by
  obtain ⟨od, h, q⟩ := x
  refine ⟨od, false, h, fun d hd => ?_⟩
  rcases q with ⟨_, d', e1, e2⟩ | ⟨_, e1⟩
  · rw [e1] at hd; cases hd; exact ⟨_, e2⟩
  · rw [e1] at hd; cases hd
theorem XF.same {c : Nat → Addr} {H H' : Hp} {e : Addr} {n w p : V} {k : Nat} (x : XF c H e n w p k) (s : Same H H') : XF c H' e n w p k := by
  obtain ⟨od, h, q⟩ := x
  refine ⟨od, s _ _ h, ?_⟩
  rcases q with ⟨l, d', e1, e2⟩ | q
  · exact .inl ⟨l, d', e1, s _ _ e2⟩
  · exact .inr q
def spInit (C : Addr) (fs : List Str) : Sp := fun vs H Q _ => ∃ x ys, vs = .ref x :: ys ∧ ys.length = fs.length ∧ H x = some (XHO x C none true) ∧
  ∀ (d : Addr) (H' : Hp), H d = none → d ≠ x → (∀ b, b ≠ x → b ≠ d → H' b = H b) → H' x = some (XHO x C (some d) true) → H' d = some (DHO d (fs.zip ys)) → Q .non H'
abbrev s_BadByte_init : Stmt := inClass (top 2) 0
abbrev N_BadByte_init : List Str := ["self", "at"]
theorem sc_BadByte_init : FnScope N_BadByte_init ["self", "at"] (defScope s_BadByte_init) := ⟨rfl, rfl, rfl, by decide +kernel, rfl, by decide +kernel, by decide +kernel⟩
abbrev s_NoPlace_init : Stmt := inClass (top 3) 0
abbrev N_NoPlace_init : List Str := ["self", "step"]
theorem sc_NoPlace_init : FnScope N_NoPlace_init ["self", "step"] (defScope s_NoPlace_init) := ⟨rfl, rfl, rfl, by decide +kernel, rfl, by decide +kernel, by decide +kernel⟩
abbrev s_BadText_init : Stmt := inClass (top 4) 0
abbrev N_BadText_init : List Str := ["self", "at"]
theorem sc_BadText_init : FnScope N_BadText_init ["self", "at"] (defScope s_BadText_init) := ⟨rfl, rfl, rfl, by decide +kernel, rfl, by decide +kernel, by decide +kernel⟩
abbrev s_BadItem_init : Stmt := inClass (top 5) 0
abbrev N_BadItem_init : List Str := ["self", "path"]
theorem sc_BadItem_init : FnScope N_BadItem_init ["self", "path"] (defScope s_BadItem_init) := ⟨rfl, rfl, rfl, by decide +kernel, rfl, by decide +kernel, by decide +kernel⟩
abbrev s_BadDeed_init : Stmt := inClass (top 6) 0
abbrev N_BadDeed_init : List Str := ["self", "word"]
theorem sc_BadDeed_init : FnScope N_BadDeed_init ["self", "word"] (defScope s_BadDeed_init) := ⟨rfl, rfl, rfl, by decide +kernel, rfl, by decide +kernel, by decide +kernel⟩
abbrev s_NoTable_init : Stmt := inClass (top 7) 0
abbrev N_NoTable_init : List Str := ["self", "one", "other", "word"]
theorem sc_NoTable_init : FnScope N_NoTable_init ["self", "one", "other", "word"] (defScope s_NoTable_init) := ⟨rfl, rfl, rfl, by decide +kernel, rfl, by decide +kernel, by decide +kernel⟩
abbrev s_NoMove_init : Stmt := inClass (top 8) 0
abbrev N_NoMove_init : List Str := ["self", "word"]
theorem sc_NoMove_init : FnScope N_NoMove_init ["self", "word"] (defScope s_NoMove_init) := ⟨rfl, rfl, rfl, by decide +kernel, rfl, by decide +kernel, by decide +kernel⟩
abbrev s_NoFile_init : Stmt := inClass (top 9) 0
abbrev N_NoFile_init : List Str := ["self", "number"]
theorem sc_NoFile_init : FnScope N_NoFile_init ["self", "number"] (defScope s_NoFile_init) := ⟨rfl, rfl, rfl, by decide +kernel, rfl, by decide +kernel, by decide +kernel⟩
section
variable {P : Program} {w : World} {K : PySem.W.Frag} {mg : Str → Option Value} {base : Heap} {f : Addr} {fd : FuncData} {C : Addr}
theorem ok_BadByte_init (F : Fun K "__init__" "BadByte.__init__" s_BadByte_init f fd) (c : XCls K C) (n : ∀ f ∈ allF, NoAttr K C f) : FnOk P w K mg base CX0 1 f fd ["self", "at"] (spInit C ["at"]) := by
  refine F.ok sc_BadByte_init (fun vs H Q E h => ?_) (fun cdv A outer s H vs Q E hr h => ?_)
  · obtain ⟨x, ys, rfl, hl, _⟩ := h
    rw [List.length_cons, hl]; rfl
  obtain ⟨x, ys, rfl, hl, hx, q⟩ := h
  match ys, hl with
  | [y0], _ =>
    refine ⟨_, (@pss_one _ _ _ (@ps_fldX _ _ _ _ _ _ _ _ (pv 0) (pv 1) rfl)), ?_⟩
    refine ⟨_, rfl, _, rfl, x, C, none, true, rfl, hx, c, n _ (by decide), .inl ⟨rfl, fun d hd nd => ?_⟩⟩
    exact q d _ hd nd (fun b h1 h2 => by rw [upd_ne h1, upd_ne h2]) upd_same (by rw [upd_ne nd, upd_same]; rfl)
theorem ok_NoPlace_init (F : Fun K "__init__" "NoPlace.__init__" s_NoPlace_init f fd) (c : XCls K C) (n : ∀ f ∈ allF, NoAttr K C f) : FnOk P w K mg base CX0 1 f fd ["self", "step"] (spInit C ["step"]) := by
  refine F.ok sc_NoPlace_init (fun vs H Q E h => ?_) (fun cdv A outer s H vs Q E hr h => ?_)
  · obtain ⟨x, ys, rfl, hl, _⟩ := h
    rw [List.length_cons, hl]; rfl
  obtain ⟨x, ys, rfl, hl, hx, q⟩ := h
  match ys, hl with
  | [y0], _ =>
    refine ⟨_, (@pss_one _ _ _ (@ps_fldX _ _ _ _ _ _ _ _ (pv 0) (pv 1) rfl)), ?_⟩
    refine ⟨_, rfl, _, rfl, x, C, none, true, rfl, hx, c, n _ (by decide), .inl ⟨rfl, fun d hd nd => ?_⟩⟩
    exact q d _ hd nd (fun b h1 h2 => by rw [upd_ne h1, upd_ne h2]) upd_same (by rw [upd_ne nd, upd_same]; rfl)
theorem ok_BadText_init (F : Fun K "__init__" "BadText.__init__" s_BadText_init f fd) (c : XCls K C) (n : ∀ f ∈ allF, NoAttr K C f) : FnOk P w K mg base CX0 1 f fd ["self", "at"] (spInit C ["at"]) := by
  refine F.ok sc_BadText_init (fun vs H Q E h => ?_) (fun cdv A outer s H vs Q E hr h => ?_)
  · obtain ⟨x, ys, rfl, hl, _⟩ := h
    rw [List.length_cons, hl]; rfl
  obtain ⟨x, ys, rfl, hl, hx, q⟩ := h
  match ys, hl with
  | [y0], _ =>
    refine ⟨_, (@pss_one _ _ _ (@ps_fldX _ _ _ _ _ _ _ _ (pv 0) (pv 1) rfl)), ?_⟩
    refine ⟨_, rfl, _, rfl, x, C, none, true, rfl, hx, c, n _ (by decide), .inl ⟨rfl, fun d hd nd => ?_⟩⟩
    exact q d _ hd nd (fun b h1 h2 => by rw [upd_ne h1, upd_ne h2]) upd_same (by rw [upd_ne nd, upd_same]; rfl)
theorem ok_BadItem_init (F : Fun K "__init__" "BadItem.__init__" s_BadItem_init f fd) (c : XCls K C) (n : ∀ f ∈ allF, NoAttr K C f) : FnOk P w K mg base CX0 1 f fd ["self", "path"] (spInit C ["path"]) := by
  refine F.ok sc_BadItem_init (fun vs H Q E h => ?_) (fun cdv A outer s H vs Q E hr h => ?_)
  · obtain ⟨x, ys, rfl, hl, _⟩ := h
    rw [List.length_cons, hl]; rfl
  obtain ⟨x, ys, rfl, hl, hx, q⟩ := h
  match ys, hl with
  | [y0], _ =>
    refine ⟨_, (@pss_one _ _ _ (@ps_fldX _ _ _ _ _ _ _ _ (pv 0) (pv 1) rfl)), ?_⟩
    refine ⟨_, rfl, _, rfl, x, C, none, true, rfl, hx, c, n _ (by decide), .inl ⟨rfl, fun d hd nd => ?_⟩⟩
    exact q d _ hd nd (fun b h1 h2 => by rw [upd_ne h1, upd_ne h2]) upd_same (by rw [upd_ne nd, upd_same]; rfl)
theorem ok_BadDeed_init (F : Fun K "__init__" "BadDeed.__init__" s_BadDeed_init f fd) (c : XCls K C) (n : ∀ f ∈ allF, NoAttr K C f) : FnOk P w K mg base CX0 1 f fd ["self", "word"] (spInit C ["word"]) := by
  refine F.ok sc_BadDeed_init (fun vs H Q E h => ?_) (fun cdv A outer s H vs Q E hr h => ?_)
  · obtain ⟨x, ys, rfl, hl, _⟩ := h
    rw [List.length_cons, hl]; rfl
  obtain ⟨x, ys, rfl, hl, hx, q⟩ := h
  match ys, hl with
  | [y0], _ =>
    refine ⟨_, (@pss_one _ _ _ (@ps_fldX _ _ _ _ _ _ _ _ (pv 0) (pv 1) rfl)), ?_⟩
    refine ⟨_, rfl, _, rfl, x, C, none, true, rfl, hx, c, n _ (by decide), .inl ⟨rfl, fun d hd nd => ?_⟩⟩
    exact q d _ hd nd (fun b h1 h2 => by rw [upd_ne h1, upd_ne h2]) upd_same (by rw [upd_ne nd, upd_same]; rfl)
theorem ok_NoTable_init (F : Fun K "__init__" "NoTable.__init__" s_NoTable_init f fd) (c : XCls K C) (n : ∀ f ∈ allF, NoAttr K C f) : FnOk P w K mg base CX0 1 f fd ["self", "one", "other", "word"] (spInit C ["one", "other", "word"]) := by
  refine F.ok sc_NoTable_init (fun vs H Q E h => ?_) (fun cdv A outer s H vs Q E hr h => ?_)
  · obtain ⟨x, ys, rfl, hl, _⟩ := h
    rw [List.length_cons, hl]; rfl
  obtain ⟨x, ys, rfl, hl, hx, q⟩ := h
  match ys, hl with
  | [y0, y1, y2], _ =>
    refine ⟨_, (@pss_cons _ _ _ _ _ (@ps_fldX _ _ _ _ _ _ _ _ (pv 0) (pv 1) rfl) (@pss_cons _ _ _ _ _ (@ps_fldX _ _ _ _ _ _ _ _ (pv 0) (pv 2) rfl) (@pss_one _ _ _ (@ps_fldX _ _ _ _ _ _ _ _ (pv 0) (pv 3) rfl)))), ?_⟩
    refine ⟨_, rfl, _, rfl, x, C, none, true, rfl, hx, c, n _ (by decide), .inl ⟨rfl, fun d hd nd => ?_⟩⟩
    refine ⟨_, rfl, _, rfl, x, C, some d, true, rfl, upd_same, c, n _ (by decide), .inr ⟨d, _, rfl, (by rw [upd_ne nd, upd_same]), by show 1 < 100; decide, ?_⟩⟩
    refine ⟨_, rfl, _, rfl, x, C, some d, true, rfl, (by rw [upd_ne (Ne.symm nd)]; exact upd_same), c, n _ (by decide), .inr ⟨d, _, rfl, upd_same, by show 2 < 100; decide, ?_⟩⟩
    refine q d _ hd nd (fun b h1 h2 => by rw [upd_ne h2, upd_ne h2, upd_ne h1, upd_ne h2]) (by rw [upd_ne (Ne.symm nd), upd_ne (Ne.symm nd)]; exact upd_same) ?_
    rw [upd_same]; rfl
theorem ok_NoMove_init (F : Fun K "__init__" "NoMove.__init__" s_NoMove_init f fd) (c : XCls K C) (n : ∀ f ∈ allF, NoAttr K C f) : FnOk P w K mg base CX0 1 f fd ["self", "word"] (spInit C ["word"]) := by
  refine F.ok sc_NoMove_init (fun vs H Q E h => ?_) (fun cdv A outer s H vs Q E hr h => ?_)
  · obtain ⟨x, ys, rfl, hl, _⟩ := h
    rw [List.length_cons, hl]; rfl
  obtain ⟨x, ys, rfl, hl, hx, q⟩ := h
  match ys, hl with
  | [y0], _ =>
    refine ⟨_, (@pss_one _ _ _ (@ps_fldX _ _ _ _ _ _ _ _ (pv 0) (pv 1) rfl)), ?_⟩
    refine ⟨_, rfl, _, rfl, x, C, none, true, rfl, hx, c, n _ (by decide), .inl ⟨rfl, fun d hd nd => ?_⟩⟩
    exact q d _ hd nd (fun b h1 h2 => by rw [upd_ne h1, upd_ne h2]) upd_same (by rw [upd_ne nd, upd_same]; rfl)
theorem ok_NoFile_init (F : Fun K "__init__" "NoFile.__init__" s_NoFile_init f fd) (c : XCls K C) (n : ∀ f ∈ allF, NoAttr K C f) : FnOk P w K mg base CX0 1 f fd ["self", "number"] (spInit C ["number"]) := by
  refine F.ok sc_NoFile_init (fun vs H Q E h => ?_) (fun cdv A outer s H vs Q E hr h => ?_)
  · obtain ⟨x, ys, rfl, hl, _⟩ := h
    rw [List.length_cons, hl]; rfl
  obtain ⟨x, ys, rfl, hl, hx, q⟩ := h
  match ys, hl with
  | [y0], _ =>
    refine ⟨_, (@pss_one _ _ _ (@ps_fldX _ _ _ _ _ _ _ _ (pv 0) (pv 1) rfl)), ?_⟩
    refine ⟨_, rfl, _, rfl, x, C, none, true, rfl, hx, c, n _ (by decide), .inl ⟨rfl, fun d hd nd => ?_⟩⟩
    exact q d _ hd nd (fun b h1 h2 => by rw [upd_ne h1, upd_ne h2]) upd_same (by rw [upd_ne nd, upd_same]; rfl)
end
/-! ### the tape -/
def Tape (K : PySem.W.Frag) (H : Hp) (l sc : Addr) (ns : List Int) : Prop := (∃ a b c : Int, 0 ≤ a ∧ 0 ≤ b ∧ 0 ≤ c ∧ H l = some (.lst [.ref sc, .int a, .int b, .int c])) ∧ SqL K H sc (ns.map V.int) ∧ ns.length ≤ 63
theorem sq_put {K : PySem.W.Frag} {H : Hp} {l sc r : Addr} {ns : List Int} {xs : List V} {o : HO} (h : H l = some (.lst (.ref r :: xs))) (s : SqL K H sc (ns.map V.int)) : SqL K (upd H l o) sc (ns.map V.int) := by
  rcases s with (s | ⟨q, s⟩) | s
  · refine .inl (.inl ?_)
    have n : sc ≠ l := fun z => by
      subst z
      rw [h] at s
      cases ns with
      | nil => cases s
      | cons a b => cases s
    rw [upd_ne n]; exact s
  · refine .inl (.inr ⟨q, ?_⟩)
    have n : sc ≠ l := fun z => by
      subst z
      rw [h] at s
      cases s
    rw [upd_ne n]; exact s
  · exact .inr s
def Kept (l : Addr) (H H' : Hp) : Prop := ∀ x o, x ≠ l → H x = some o → H' x = some o
theorem Kept.trans {l : Addr} {H H1 H2 : Hp} (a : Kept l H H1) (b : Kept l H1 H2) : Kept l H H2 := fun x o n h => b x o n (a x o n h)
def spTape (K : PySem.W.Frag) : Sp := fun vs H Q _ => ∃ (sc : Addr) (ns : List Int), vs = [.ref sc] ∧ SqL K H sc (ns.map V.int) ∧ ns.length ≤ 63 ∧ ∀ (l : Addr) (H' : Hp), H l = none → Same H H' → Tape K H' l sc ns → Q (.ref l) H'
def spNext (K : PySem.W.Frag) : Sp := fun vs H Q _ => ∃ (l sc : Addr) (ns : List Int) (m : Int), vs = [.ref l, .int m] ∧ Tape K H l sc ns ∧ 0 < m ∧ m < 1073741824 ∧ ∀ (r : Int) (H' : Hp), 0 ≤ r → r < m → Kept l H H' → Tape K H' l sc ns → Q (.int r) H'
abbrev s_law_tape : Stmt := top 13
abbrev N_law_tape : List Str := ["_law_script"]
theorem sc_law_tape : FnScope N_law_tape ["_law_script"] (defScope s_law_tape) := ⟨rfl, rfl, rfl, by decide +kernel, rfl, by decide +kernel, by decide +kernel⟩
abbrev s_law_next : Stmt := top 14
abbrev N_law_next : List Str := ["_law_tape_here", "_law_many", "_law_script", "_law_digit", "_law_cell", "_law_seed"]
theorem sc_law_next : FnScope N_law_next ["_law_tape_here", "_law_many"] (defScope s_law_next) := ⟨rfl, rfl, rfl, by decide +kernel, rfl, by decide +kernel, by decide +kernel⟩
section
variable {P : Program} {w : World} {K : PySem.W.Frag} {mg : Str → Option Value} {base : Heap} {f : Addr} {fd : FuncData}
theorem ok_tape (F : Fun K "_law_tape" "_law_tape" s_law_tape f fd) : FnOk P w K mg base CX0 1 f fd ["_law_script"] (spTape K) := by
  refine F.ok sc_law_tape (fun vs H Q E h => ?_) (fun cdv A outer s H vs Q E hr h => ?_)
  · obtain ⟨a, ns, rfl, _⟩ := h
    rfl
  obtain ⟨sc, ns, rfl, hS, h63, q⟩ := h
  refine ⟨_, (@pss_one _ _ _ (@ps_ret _ _ _ _ (@pe_lst _ _ _ _ (@pa_cons _ _ _ _ _ (pv 0) (@pa_cons _ _ _ _ _ pe_int (@pa_cons _ _ _ _ _ pe_int (@pa_cons _ _ _ _ _ pe_int pa_nil rfl) rfl) rfl) rfl)))), ?_⟩
  refine ⟨_, rfl, (by show 4 ≤ sizeLine; decide), fun l hl => ?_⟩
  exact q l _ hl ((Same.refl H).put hl) ⟨⟨0, 0, 0, by decide, by decide, by decide, upd_same⟩, ((Same.refl H).put hl).seq hS, h63⟩
theorem ok_next (F : Fun K "_law_next" "_law_next" s_law_next f fd) (m : Bn mg) : FnOk P w K mg base CX0 1 f fd ["_law_tape_here", "_law_many"] (spNext K) := by
  refine F.ok sc_law_next (fun vs H Q E h => ?_) (fun cdv A outer s H vs Q E hr h => ?_)
  · obtain ⟨l, sc, ns, m, rfl, _⟩ := h
    rfl
  obtain ⟨l, sc, ns, mm, rfl, ⟨⟨a, b, c, ha, hb, hc, hH⟩, hS, h63⟩, hm, hm2, q⟩ := h
  have hl : (ns.map V.int).length = ns.length := List.length_map _
  obtain ⟨t3, hT, tl⟩ : ∃ t, PSs (cxOf CX0 P w K mg base N_law_next "_law_next" (defScope s_law_next) f cdv A outer s H E).nox ((defBody s_law_next).drop 3) t ∧
      ∀ (a b : Int) (H3 : Hp), 0 ≤ a → 0 ≤ b → Kept l H H3 → H3 l = some (.lst [.ref sc, .int a, .int b, .int (c + 1)]) → SqL K H3 sc (ns.map V.int) →
        t { nx := fun _ H' => Q .non H', rt := Q } [some (.ref l), some (.int mm), some (.ref sc), none, none, none] H3 := by
    refine ⟨_, (@pss_cons _ _ _ _ _ (@ps_if _ _ _ _ _ _ _ _ (@pt_cmpR _ _ _ _ _ _ _ _ op_gt (@pe_ix _ _ _ _ _ _ _ ix_list (pv 0) pe_int (fun _ _ =>  rfl)) pe_int (nomark _)) (@pss_cons _ _ _ _ _ (@ps_setI _ 3 _ _ _ _ _ sc_law_next.nd rfl (by first | exact Or.inl rfl | exact Or.inr rfl) (@pe_op _ _ _ _ _ _ _ _ op_mod (@pe_ix _ _ _ _ _ _ _ ix_list (pv 0) pe_int (fun _ _ =>  rfl)) (pv 1)) rfl (by first | exact .inl rfl | exact .inr rfl)) (@pss_cons _ _ _ _ _ (@ps_asg _ _ _ _ _ _ (@pe_op _ _ _ _ _ _ _ _ op_fdiv (@pe_ix _ _ _ _ _ _ _ ix_list (pv 0) pe_int (fun _ _ =>  rfl)) (pv 1)) (@pg_sub _ _ _ _ _ _ _ (pv 0) pe_int set_list (by first | rfl | decide | (intro _; rfl) | exact .inl rfl | exact .inr rfl | assumption)) (by first | rfl | decide | (intro _; rfl) | exact .inl rfl | exact .inr rfl | assumption) (by first | rfl | decide | (intro _; rfl) | exact .inl rfl | exact .inr rfl | assumption) (by first | rfl | decide | (intro _; rfl) | exact .inl rfl | exact .inr rfl | assumption)) (@pss_one _ _ _ (@ps_ret _ _ _ _ (pv 3))))) pss_nil) (@pss_cons _ _ _ _ _ (@ps_setI _ 4 _ _ _ _ _ sc_law_next.nd rfl (by first | exact Or.inl rfl | exact Or.inr rfl) (@pe_ifExp _ _ _ _ _ _ _ _ (@pt_cmpR _ _ _ _ _ _ _ _ op_gt (@pe_callB _ _ _ _ _ _ _ _ _ call_len_seq rfl m.len b_len (@pa_cons _ _ _ _ _ (pv 2) pa_nil rfl) (by decide) (by decide) rfl rfl) pe_int (nomark _)) (@pe_ix _ _ _ _ _ _ _ ix_list (pv 2) (@pe_op _ _ _ _ _ _ _ _ op_mod (@pe_ix _ _ _ _ _ _ _ ix_list (pv 0) pe_int (fun _ _ =>  rfl)) (@pe_callB _ _ _ _ _ _ _ _ _ call_len_seq rfl m.len b_len (@pa_cons _ _ _ _ _ (pv 2) pa_nil rfl) (by decide) (by decide) rfl rfl)) (fun _ _ =>  rfl)) pe_int) rfl (by first | exact .inl rfl | exact .inr rfl)) (@pss_cons _ _ _ _ _ (@ps_setI _ 5 _ _ _ _ _ sc_law_next.nd rfl (by first | exact Or.inl rfl | exact Or.inr rfl) (@pe_op _ _ _ _ _ _ _ _ op_mod (@pe_op _ _ _ _ _ _ _ _ op_mul (@pe_op _ _ _ _ _ _ _ _ op_add (@pe_op _ _ _ _ _ _ _ _ op_add (@pe_op _ _ _ _ _ _ _ _ op_mod (pv 4) pe_int) (@pe_op _ _ _ _ _ _ _ _ op_mul pe_int (@pe_ix _ _ _ _ _ _ _ ix_list (pv 0) pe_int (fun _ _ =>  rfl)))) pe_int) pe_int) pe_int) rfl (by first | exact .inl rfl | exact .inr rfl)) (@pss_one _ _ _ (@ps_ret _ _ _ _ (@pe_op _ _ _ _ _ _ _ _ op_mod (@pe_op _ _ _ _ _ _ _ _ op_mod (@pe_op _ _ _ _ _ _ _ _ op_mul (@pe_op _ _ _ _ _ _ _ _ op_mod (@pe_op _ _ _ _ _ _ _ _ op_add (@pe_op _ _ _ _ _ _ _ _ op_mul (pv 5) pe_int) (@pe_ix _ _ _ _ _ _ _ ix_list (pv 0) pe_int (fun _ _ =>  rfl))) pe_int) pe_int) pe_int) (pv 1))))))), ?_⟩
    intro a b H3 ha hb k3 e3 s3
    have put : ∀ o, Kept l H (upd H3 l o) := fun o => k3.trans fun x u n z => by rw [upd_ne n]; exact z
    refine ⟨_, rfl, l, _, _, _, rfl, rfl, SqL.of e3, rfl, _, _, rfl, rfl, _, rfl, ?_⟩
    refine ite2 (fun c1 => ?_) (fun c1 => ?_)
    · refine ⟨_, rfl, l, _, _, _, rfl, rfl, SqL.of e3, rfl, _, rfl, _, _, rfl, rfl, hm, ?_⟩
      refine ⟨_, rfl, l, _, _, _, rfl, rfl, SqL.of e3, rfl, _, rfl, _, _, rfl, rfl, ⟨hm, hm2⟩, _, rfl, l, _, _, _, rfl, rfl, e3, rfl, ?_⟩
      refine ⟨_, rfl, ?_⟩
      exact q (b % mm) _ (Int.emod_nonneg _ (by omega)) (Int.emod_lt_of_pos _ hm) (put _) ⟨⟨a, b / mm, c + 1, ha, Int.ediv_nonneg hb (by omega), by omega, upd_same⟩, sq_put e3 s3, h63⟩
    · refine ⟨_, rfl, sc, _, rfl, .inl s3, _, _, rfl, rfl, _, rfl, ?_⟩
      refine ite2 (fun c2 => ?_) (fun c2 => ?_)
      · have c3 : (((ns.map V.int).length : Nat) : Int) > 0 := of_decide_eq_true c2
        have hr0 := Int.emod_nonneg (c + 1) (Int.ne_of_gt c3)
        have hr1 := Int.emod_lt_of_pos (c + 1) c3
        generalize hix : (c + 1) % (((ns.map V.int).length : Nat) : Int) = ix at hr0 hr1
        rw [hl] at hr1
        have hj : ix.toNat < ns.length := by omega
        have hat : atI (ns.map V.int) ix = some (.int ns[ix.toNat]) := by
          have z : atI (ns.map V.int) ((ix.toNat : Nat) : Int) = some (.int ns[ix.toNat]) := atI_nat (by rw [List.getElem?_map, List.getElem?_eq_getElem hj] <;> rfl)
          rw [show ((ix.toNat : Nat) : Int) = ix by omega] at z
          exact z
        refine ⟨_, rfl, _, rfl, l, _, _, _, rfl, rfl, SqL.of e3, rfl, _, rfl, sc, _, rfl, .inl s3, _, _, rfl, rfl, c3, sc, _, _, _, rfl, rfl, s3, (by rw [hix]; exact hat), ?_⟩
        refine ⟨_, rfl, _, _, rfl, rfl, (show (0 : Int) < 2147483647 by decide), _, rfl, l, _, _, _, rfl, rfl, SqL.of e3, rfl, _, _, rfl, rfl, .inl ⟨by decide, by decide⟩, _, _, rfl, rfl, _, _, rfl, rfl, _, _, rfl, rfl, .inr ⟨by decide, by decide⟩, _, _, rfl, rfl, (show (0 : Int) < 2147483647 by decide), ?_⟩
        refine ⟨_, rfl, _, _, rfl, rfl, .inr ⟨by decide, by decide⟩, _, rfl, l, _, _, _, rfl, rfl, SqL.of e3, rfl, _, _, rfl, rfl, _, _, rfl, rfl, (show (0 : Int) < 2147483399 by decide), _, _, rfl, rfl, .inr ⟨by decide, by decide⟩, _, _, rfl, rfl, (show (0 : Int) < 2147483563 by decide), _, rfl, _, _, rfl, rfl, hm, ?_⟩
        exact q _ _ (Int.emod_nonneg _ (by omega)) (Int.emod_lt_of_pos _ hm) k3 ⟨⟨a, b, c + 1, ha, hb, by omega, e3⟩, s3, h63⟩
      · refine ⟨_, rfl, _, _, rfl, rfl, (show (0 : Int) < 2147483647 by decide), _, rfl, l, _, _, _, rfl, rfl, SqL.of e3, rfl, _, _, rfl, rfl, .inl ⟨by decide, by decide⟩, _, _, rfl, rfl, _, _, rfl, rfl, _, _, rfl, rfl, .inr ⟨by decide, by decide⟩, _, _, rfl, rfl, (show (0 : Int) < 2147483647 by decide), ?_⟩
        refine ⟨_, rfl, _, _, rfl, rfl, .inr ⟨by decide, by decide⟩, _, rfl, l, _, _, _, rfl, rfl, SqL.of e3, rfl, _, _, rfl, rfl, _, _, rfl, rfl, (show (0 : Int) < 2147483399 by decide), _, _, rfl, rfl, .inr ⟨by decide, by decide⟩, _, _, rfl, rfl, (show (0 : Int) < 2147483563 by decide), _, rfl, _, _, rfl, rfl, hm, ?_⟩
        exact q _ _ (Int.emod_nonneg _ (by omega)) (Int.emod_lt_of_pos _ hm) k3 ⟨⟨a, b, c + 1, ha, hb, by omega, e3⟩, s3, h63⟩
  refine ⟨_, (@pss_cons _ _ _ _ _ (@ps_setI _ 2 _ _ _ _ _ sc_law_next.nd rfl (by first | exact Or.inl rfl | exact Or.inr rfl) (@pe_ix _ _ _ _ _ _ _ ix_list (pv 0) pe_int (fun _ _ =>  rfl)) rfl (by first | exact .inl rfl | exact .inr rfl)) (@pss_cons _ _ _ _ _ (@ps_asg _ _ _ _ _ _ (@pe_op _ _ _ _ _ _ _ _ op_add (@pe_ix _ _ _ _ _ _ _ ix_list (pv 0) pe_int (fun _ _ =>  rfl)) pe_int) (@pg_sub _ _ _ _ _ _ _ (pv 0) pe_int set_list (by first | rfl | decide | (intro _; rfl) | exact .inl rfl | exact .inr rfl | assumption)) (by first | rfl | decide | (intro _; rfl) | exact .inl rfl | exact .inr rfl | assumption) (by first | rfl | decide | (intro _; rfl) | exact .inl rfl | exact .inr rfl | assumption) (by first | rfl | decide | (intro _; rfl) | exact .inl rfl | exact .inr rfl | assumption)) (@pss_cons _ _ _ _ _ (@ps_if _ _ _ _ _ _ _ _ (@PW.pt _ _ _ (@pw_and _ _ _ _ _ _ _ (@pt_cmpR _ _ _ _ _ _ _ _ op_eq (@pe_ix _ _ _ _ _ _ _ ix_list (pv 0) pe_int (fun _ _ =>  rfl)) pe_int (nomark _)) (@pw_and1 _ _ _ _ (@pt_cmpR _ _ _ _ _ _ _ _ op_lt (@pe_ix _ _ _ _ _ _ _ ix_list (pv 0) pe_int (fun _ _ =>  rfl)) (@pe_callB _ _ _ _ _ _ _ _ _ call_len_seq rfl m.len b_len (@pa_cons _ _ _ _ _ (pv 2) pa_nil rfl) (by decide) (by decide) rfl rfl) (nomark _))))) (@pss_cons _ _ _ _ _ (@ps_asg _ _ _ _ _ _ (@pe_callB _ _ _ _ _ _ _ _ _ (call_max2 rfl) rfl m.max b_max (@pa_cons _ _ _ _ _ pe_int (@pa_cons _ _ _ _ _ (@pe_op _ _ _ _ _ _ _ _ op_fdivL (@pe_ix _ _ _ _ _ _ _ ix_list (pv 2) (@pe_ix _ _ _ _ _ _ _ ix_list (pv 0) pe_int (fun _ _ =>  rfl)) (fun _ _ =>  rfl)) (@pe_op _ _ _ _ _ _ _ _ op_pow pe_int pe_int)) pa_nil rfl) rfl) (by decide) (by decide) rfl rfl) (@pg_sub _ _ _ _ _ _ _ (pv 0) pe_int set_list (by first | rfl | decide | (intro _; rfl) | exact .inl rfl | exact .inr rfl | assumption)) (by first | rfl | decide | (intro _; rfl) | exact .inl rfl | exact .inr rfl | assumption) (by first | rfl | decide | (intro _; rfl) | exact .inl rfl | exact .inr rfl | assumption) (by first | rfl | decide | (intro _; rfl) | exact .inl rfl | exact .inr rfl | assumption)) (@pss_one _ _ _ (@ps_asg _ _ _ _ _ _ (@pe_op _ _ _ _ _ _ _ _ op_add (@pe_ix _ _ _ _ _ _ _ ix_list (pv 0) pe_int (fun _ _ =>  rfl)) pe_int) (@pg_sub _ _ _ _ _ _ _ (pv 0) pe_int set_list (by first | rfl | decide | (intro _; rfl) | exact .inl rfl | exact .inr rfl | assumption)) (by first | rfl | decide | (intro _; rfl) | exact .inl rfl | exact .inr rfl | assumption) (by first | rfl | decide | (intro _; rfl) | exact .inl rfl | exact .inr rfl | assumption) (by first | rfl | decide | (intro _; rfl) | exact .inl rfl | exact .inr rfl | assumption)))) pss_nil) hT))), ?_⟩
  refine ⟨_, rfl, l, _, _, _, rfl, rfl, SqL.of hH, rfl, ?_⟩
  refine ⟨_, rfl, l, _, _, _, rfl, rfl, SqL.of hH, rfl, _, _, rfl, rfl, _, rfl, l, _, _, _, rfl, rfl, hH, rfl, ?_⟩
  generalize hH2 : upd H l _ = H2
  have k2 : Kept l H H2 := fun x o n z => by rw [← hH2, upd_ne n]; exact z
  have e2 : H2 l = some (.lst [.ref sc, .int a, .int b, .int (c + 1)]) := by rw [← hH2]; exact upd_same
  have s2 : SqL K H2 sc (ns.map V.int) := by rw [← hH2]; exact sq_put hH hS
  clear hH2
  have fin := tl a b H2 ha hb k2 e2 s2
  refine ⟨_, rfl, l, _, _, _, rfl, rfl, SqL.of e2, rfl, rfl, _, rfl, ?_⟩
  refine ite2 (fun c1 => ?_) (fun c1 => iteF fin)
  refine ⟨_, rfl, l, _, _, _, rfl, rfl, SqL.of e2, rfl, _, rfl, sc, _, rfl, .inl s2, _, _, rfl, rfl, _, rfl, ?_⟩
  refine ite2 (fun c2 => ?_) (fun c2 => fin)
  have c3 : a < (((ns.map V.int).length : Nat) : Int) := of_decide_eq_true c2
  rw [hl] at c3
  have hj : a.toNat < ns.length := by omega
  have hat : atI (ns.map V.int) a = some (.int ns[a.toNat]) := by
    have z : atI (ns.map V.int) ((a.toNat : Nat) : Int) = some (.int ns[a.toNat]) := atI_nat (by rw [List.getElem?_map, List.getElem?_eq_getElem hj] <;> rfl)
    rw [show ((a.toNat : Nat) : Int) = a by omega] at z
    exact z
  refine ⟨_, rfl, _, rfl, l, _, _, _, rfl, rfl, SqL.of e2, rfl, sc, _, _, _, rfl, rfl, s2, hat, _, _, rfl, rfl, ⟨by decide, by decide, by decide⟩, _, _, rfl, rfl, ⟨by decide, by decide +kernel⟩, _, _, rfl, _, rfl, l, _, _, _, rfl, rfl, e2, rfl, ?_⟩
  refine ⟨_, rfl, l, _, _, _, rfl, rfl, SqL.of upd_same, rfl, _, _, rfl, rfl, _, rfl, l, _, _, _, rfl, rfl, upd_same, rfl, ?_⟩
  rw [upd_upd]
  refine tl (a + 1) _ _ (by omega) ?_ (k2.trans fun x o n z => by rw [upd_ne n]; exact z) upd_same (sq_put e2 s2)
  split <;> omega
end
end K97
namespace K97
open PySem PySem.Spec PyProof.Rows L2
abbrev s_law_fields : Stmt := top 15
abbrev N_law_fields : List Str := ["_law_e"]
theorem sc_law_fields : FnScope N_law_fields ["_law_e"] (defScope s_law_fields) := ⟨rfl, rfl, rfl, by decide +kernel, rfl, by decide +kernel, by decide +kernel⟩
abbrev s_law_sorts : Stmt := top 16
abbrev N_law_sorts : List Str := ["_law_e", "_law_some"]
theorem sc_law_sorts : FnScope N_law_sorts ["_law_e"] (defScope s_law_sorts) := ⟨rfl, rfl, rfl, by decide +kernel, rfl, by decide +kernel, by decide +kernel⟩
theorem any2 {K : PySem.W.Frag} {mg : Str → Option Value} {M : Addr} {c : Nat → Addr} (E : Exs K mg M c) {k : Nat} (hk : k < 10) (i j : Nat) (hi : i < 10) (hj : j < 10) :
    PySem.W.kitAny K (.ref (c k)) ([c i, c j].map Value.ref) = some (decide (k = i) || decide (k = j)) := by
  show PySem.W.kitAny K (.ref (c k)) [.ref (c i), .ref (c j)] = _
  unfold PySem.W.kitAny
  rw [E.sub k i hk hi]
  cases decide (k = i) with
  | true => rfl
  | false =>
    show PySem.W.kitAny K (.ref (c k)) [.ref (c j)] = _
    unfold PySem.W.kitAny
    rw [E.sub k j hk hj]
    cases decide (k = j) <;> rfl
def spFields (c : Nat → Addr) : Sp := fun vs H Q _ => ∃ (e : Addr) (n w p : V) (k : Nat), vs = [.ref e] ∧ k < 10 ∧ XF c H e n w p k ∧ ∀ (t : Addr) (H' : Hp), H t = none → Same H H' → H' t = some (.tup ((fl n w p k).map (·.2))) → Q (.ref t) H'
/-- which of the ten it is -/
def sorts (k : Nat) : List Bool := [decide (k = 0), decide (k = 1), decide (k = 2), decide (k = 3), decide (k = 4), decide (k = 5), decide (k = 6), decide (k = 7), decide (k = 8), decide (k = 9)]
def spSorts (c : Nat → Addr) : Sp := fun vs H Q _ => ∃ (e : Addr) (n w p : V) (k : Nat), vs = [.ref e] ∧ k < 10 ∧ XF c H e n w p k ∧ ∀ (l : Addr) (H' : Hp), H l = none → Same H H' → H' l = some (.lst ((sorts k).map V.bl)) → Q (.ref l) H'
section
variable {P : Program} {w : World} {K : PySem.W.Frag} {mg : Str → Option Value} {base : Heap} {f : Addr} {fd : FuncData} {M : Addr} {c : Nat → Addr}
theorem ok_fields (E : Exs K mg M c) (F : Fun K "_law_fields" "_law_fields" s_law_fields f fd) (m : Bn mg) : FnOk P w K mg base CX0 1 f fd ["_law_e"] (spFields c) := by
  refine F.ok sc_law_fields (fun vs H Q E h => ?_) (fun cdv A outer s H vs Q _ hr h => ?_)
  · obtain ⟨e, n, w, p, k, rfl, _⟩ := h
    rfl
  obtain ⟨e, n, w', p, k, rfl, hk, x, q⟩ := h
  have x_BadByte := E.BadByte
  have x_NoPlace := E.NoPlace
  have x_BadText := E.BadText
  have x_BadItem := E.BadItem
  have x_BadDeed := E.BadDeed
  have x_NoTable := E.NoTable
  have x_NoMove := E.NoMove
  have x_NoFile := E.NoFile
  refine ⟨_, (@pss_cons _ _ _ _ _ (@ps_if _ _ _ _ _ _ _ _ (@pt_val _ _ _ (@pe_callB _ _ _ _ _ _ _ _ _ call_isiXT rfl m.isinstance b_isinstance (@pa_cons _ _ _ _ _ (pv 0) (@pa_cons _ _ _ _ _ (@pe_tup _ _ _ _ _ (@pa_cons _ _ _ _ _ (@pe_globR _ _ _ _ rfl x_BadByte (by decide)) (@pa_cons _ _ _ _ _ (@pe_globR _ _ _ _ rfl x_BadText (by decide)) pa_nil rfl) rfl)) pa_nil rfl) rfl) (by decide) (by decide) rfl rfl) (by intro _; rfl)) (@pss_one _ _ _ (@ps_ret _ _ _ _ (@pe_tup _ _ _ _ _ (@pa_cons _ _ _ _ _ (@pe_fldX _ _ _ _ _ (pv 0) rfl) pa_nil rfl)))) pss_nil) (@pss_cons _ _ _ _ _ (@ps_if _ _ _ _ _ _ _ _ (@pt_val _ _ _ (@pe_callB _ _ _ _ _ _ _ _ _ call_isiX rfl m.isinstance b_isinstance (@pa_cons _ _ _ _ _ (pv 0) (@pa_cons _ _ _ _ _ (@pe_globR _ _ _ _ rfl x_NoPlace (by decide)) pa_nil rfl) rfl) (by decide) (by decide) rfl rfl) (by intro _; rfl)) (@pss_one _ _ _ (@ps_ret _ _ _ _ (@pe_tup _ _ _ _ _ (@pa_cons _ _ _ _ _ (@pe_fldX _ _ _ _ _ (pv 0) rfl) pa_nil rfl)))) pss_nil) (@pss_cons _ _ _ _ _ (@ps_if _ _ _ _ _ _ _ _ (@pt_val _ _ _ (@pe_callB _ _ _ _ _ _ _ _ _ call_isiX rfl m.isinstance b_isinstance (@pa_cons _ _ _ _ _ (pv 0) (@pa_cons _ _ _ _ _ (@pe_globR _ _ _ _ rfl x_BadItem (by decide)) pa_nil rfl) rfl) (by decide) (by decide) rfl rfl) (by intro _; rfl)) (@pss_one _ _ _ (@ps_ret _ _ _ _ (@pe_tup _ _ _ _ _ (@pa_cons _ _ _ _ _ (@pe_fldX _ _ _ _ _ (pv 0) rfl) pa_nil rfl)))) pss_nil) (@pss_cons _ _ _ _ _ (@ps_if _ _ _ _ _ _ _ _ (@pt_val _ _ _ (@pe_callB _ _ _ _ _ _ _ _ _ call_isiXT rfl m.isinstance b_isinstance (@pa_cons _ _ _ _ _ (pv 0) (@pa_cons _ _ _ _ _ (@pe_tup _ _ _ _ _ (@pa_cons _ _ _ _ _ (@pe_globR _ _ _ _ rfl x_BadDeed (by decide)) (@pa_cons _ _ _ _ _ (@pe_globR _ _ _ _ rfl x_NoMove (by decide)) pa_nil rfl) rfl)) pa_nil rfl) rfl) (by decide) (by decide) rfl rfl) (by intro _; rfl)) (@pss_one _ _ _ (@ps_ret _ _ _ _ (@pe_tup _ _ _ _ _ (@pa_cons _ _ _ _ _ (@pe_fldX _ _ _ _ _ (pv 0) rfl) pa_nil rfl)))) pss_nil) (@pss_cons _ _ _ _ _ (@ps_if _ _ _ _ _ _ _ _ (@pt_val _ _ _ (@pe_callB _ _ _ _ _ _ _ _ _ call_isiX rfl m.isinstance b_isinstance (@pa_cons _ _ _ _ _ (pv 0) (@pa_cons _ _ _ _ _ (@pe_globR _ _ _ _ rfl x_NoTable (by decide)) pa_nil rfl) rfl) (by decide) (by decide) rfl rfl) (by intro _; rfl)) (@pss_one _ _ _ (@ps_ret _ _ _ _ (@pe_tup _ _ _ _ _ (@pa_cons _ _ _ _ _ (@pe_fldX _ _ _ _ _ (pv 0) rfl) (@pa_cons _ _ _ _ _ (@pe_fldX _ _ _ _ _ (pv 0) rfl) (@pa_cons _ _ _ _ _ (@pe_fldX _ _ _ _ _ (pv 0) rfl) pa_nil rfl) rfl) rfl)))) pss_nil) (@pss_one _ _ _ (@ps_ret _ _ _ _ (@pe_ifExp _ _ _ _ _ _ _ _ (@pt_val _ _ _ (@pe_callB _ _ _ _ _ _ _ _ _ call_isiX rfl m.isinstance b_isinstance (@pa_cons _ _ _ _ _ (pv 0) (@pa_cons _ _ _ _ _ (@pe_globR _ _ _ _ rfl x_NoFile (by decide)) pa_nil rfl) rfl) (by decide) (by decide) rfl rfl) (by intro _; rfl)) (@pe_tup _ _ _ _ _ (@pa_cons _ _ _ _ _ (@pe_fldX _ _ _ _ _ (pv 0) rfl) pa_nil rfl)) (@pe_tup _ _ _ _ _ pa_nil))))))))), ?_⟩
  match k, hk with
  | 0, hk =>
    have s0 : Same H H := Same.refl H
    refine ⟨_, rfl, (by show 2 ≤ sizeLine; decide), fun p0 hp0 => ?_⟩
    have x1 := x.same ((Same.refl _).put (o := .tup [.ref (c 0), .ref (c 2)]) hp0)
    have s1 := s0.trans ((Same.refl _).put (o := .tup [.ref (c 0), .ref (c 2)]) hp0)
    refine ⟨e, c 0, p0, [c 0, c 2], _, rfl, upd_same, x1.isX, E.xc 0 hk, any2 E hk 0 2 (by decide) (by decide), _, rfl, iteY (by decide) ?_⟩
    generalize upd _ p0 _ = H1 at x1 s1 ⊢
    obtain ⟨od, ex, ⟨_, d, rfl, ed⟩ | ⟨h8, _⟩⟩ := x1
    · refine ⟨_, rfl, e, c 0, d, false, _, _, rfl, ex, ed, E.xc 0 hk, E.no 0 hk _ (by decide), rfl, (by show 1 ≤ sizeLine; decide), fun t ht => ?_⟩
      exact q t _ (s1.free ht) (s1.put (s1.free ht)) upd_same
    · omega
  | 1, hk =>
    have s0 : Same H H := Same.refl H
    refine ⟨_, rfl, (by show 2 ≤ sizeLine; decide), fun p0 hp0 => ?_⟩
    have x1 := x.same ((Same.refl _).put (o := .tup [.ref (c 0), .ref (c 2)]) hp0)
    have s1 := s0.trans ((Same.refl _).put (o := .tup [.ref (c 0), .ref (c 2)]) hp0)
    refine ⟨e, c 1, p0, [c 0, c 2], _, rfl, upd_same, x1.isX, E.xc 1 hk, any2 E hk 0 2 (by decide) (by decide), _, rfl, iteN (by decide) ?_⟩
    generalize upd _ p0 _ = H1 at x1 s1 ⊢
    refine ⟨_, rfl, e, c 1, c 1, _, rfl, x1.isX, E.xc 1 hk, E.sub 1 1 hk (by decide), _, rfl, iteY (by decide) ?_⟩
    obtain ⟨od, ex, ⟨_, d, rfl, ed⟩ | ⟨h8, _⟩⟩ := x1
    · refine ⟨_, rfl, e, c 1, d, false, _, _, rfl, ex, ed, E.xc 1 hk, E.no 1 hk _ (by decide), rfl, (by show 1 ≤ sizeLine; decide), fun t ht => ?_⟩
      exact q t _ (s1.free ht) (s1.put (s1.free ht)) upd_same
    · omega
  | 2, hk =>
    have s0 : Same H H := Same.refl H
    refine ⟨_, rfl, (by show 2 ≤ sizeLine; decide), fun p0 hp0 => ?_⟩
    have x1 := x.same ((Same.refl _).put (o := .tup [.ref (c 0), .ref (c 2)]) hp0)
    have s1 := s0.trans ((Same.refl _).put (o := .tup [.ref (c 0), .ref (c 2)]) hp0)
    refine ⟨e, c 2, p0, [c 0, c 2], _, rfl, upd_same, x1.isX, E.xc 2 hk, any2 E hk 0 2 (by decide) (by decide), _, rfl, iteY (by decide) ?_⟩
    generalize upd _ p0 _ = H1 at x1 s1 ⊢
    obtain ⟨od, ex, ⟨_, d, rfl, ed⟩ | ⟨h8, _⟩⟩ := x1
    · refine ⟨_, rfl, e, c 2, d, false, _, _, rfl, ex, ed, E.xc 2 hk, E.no 2 hk _ (by decide), rfl, (by show 1 ≤ sizeLine; decide), fun t ht => ?_⟩
      exact q t _ (s1.free ht) (s1.put (s1.free ht)) upd_same
    · omega
  | 3, hk =>
    have s0 : Same H H := Same.refl H
    refine ⟨_, rfl, (by show 2 ≤ sizeLine; decide), fun p0 hp0 => ?_⟩
    have x1 := x.same ((Same.refl _).put (o := .tup [.ref (c 0), .ref (c 2)]) hp0)
    have s1 := s0.trans ((Same.refl _).put (o := .tup [.ref (c 0), .ref (c 2)]) hp0)
    refine ⟨e, c 3, p0, [c 0, c 2], _, rfl, upd_same, x1.isX, E.xc 3 hk, any2 E hk 0 2 (by decide) (by decide), _, rfl, iteN (by decide) ?_⟩
    generalize upd _ p0 _ = H1 at x1 s1 ⊢
    refine ⟨_, rfl, e, c 3, c 1, _, rfl, x1.isX, E.xc 3 hk, E.sub 3 1 hk (by decide), _, rfl, iteN (by decide) ?_⟩
    refine ⟨_, rfl, e, c 3, c 3, _, rfl, x1.isX, E.xc 3 hk, E.sub 3 3 hk (by decide), _, rfl, iteY (by decide) ?_⟩
    obtain ⟨od, ex, ⟨_, d, rfl, ed⟩ | ⟨h8, _⟩⟩ := x1
    · refine ⟨_, rfl, e, c 3, d, false, _, _, rfl, ex, ed, E.xc 3 hk, E.no 3 hk _ (by decide), rfl, (by show 1 ≤ sizeLine; decide), fun t ht => ?_⟩
      exact q t _ (s1.free ht) (s1.put (s1.free ht)) upd_same
    · omega
  | 4, hk =>
    have s0 : Same H H := Same.refl H
    refine ⟨_, rfl, (by show 2 ≤ sizeLine; decide), fun p0 hp0 => ?_⟩
    have x1 := x.same ((Same.refl _).put (o := .tup [.ref (c 0), .ref (c 2)]) hp0)
    have s1 := s0.trans ((Same.refl _).put (o := .tup [.ref (c 0), .ref (c 2)]) hp0)
    refine ⟨e, c 4, p0, [c 0, c 2], _, rfl, upd_same, x1.isX, E.xc 4 hk, any2 E hk 0 2 (by decide) (by decide), _, rfl, iteN (by decide) ?_⟩
    generalize upd _ p0 _ = H1 at x1 s1 ⊢
    refine ⟨_, rfl, e, c 4, c 1, _, rfl, x1.isX, E.xc 4 hk, E.sub 4 1 hk (by decide), _, rfl, iteN (by decide) ?_⟩
    refine ⟨_, rfl, e, c 4, c 3, _, rfl, x1.isX, E.xc 4 hk, E.sub 4 3 hk (by decide), _, rfl, iteN (by decide) ?_⟩
    refine ⟨_, rfl, (by show 2 ≤ sizeLine; decide), fun p1 hp1 => ?_⟩
    have x2 := x1.same ((Same.refl _).put (o := .tup [.ref (c 4), .ref (c 6)]) hp1)
    have s2 := s1.trans ((Same.refl _).put (o := .tup [.ref (c 4), .ref (c 6)]) hp1)
    refine ⟨e, c 4, p1, [c 4, c 6], _, rfl, upd_same, x2.isX, E.xc 4 hk, any2 E hk 4 6 (by decide) (by decide), _, rfl, iteY (by decide) ?_⟩
    generalize upd _ p1 _ = H2 at x2 s2 ⊢
    obtain ⟨od, ex, ⟨_, d, rfl, ed⟩ | ⟨h8, _⟩⟩ := x2
    · refine ⟨_, rfl, e, c 4, d, false, _, _, rfl, ex, ed, E.xc 4 hk, E.no 4 hk _ (by decide), rfl, (by show 1 ≤ sizeLine; decide), fun t ht => ?_⟩
      exact q t _ (s2.free ht) (s2.put (s2.free ht)) upd_same
    · omega
  | 5, hk =>
    have s0 : Same H H := Same.refl H
    refine ⟨_, rfl, (by show 2 ≤ sizeLine; decide), fun p0 hp0 => ?_⟩
    have x1 := x.same ((Same.refl _).put (o := .tup [.ref (c 0), .ref (c 2)]) hp0)
    have s1 := s0.trans ((Same.refl _).put (o := .tup [.ref (c 0), .ref (c 2)]) hp0)
    refine ⟨e, c 5, p0, [c 0, c 2], _, rfl, upd_same, x1.isX, E.xc 5 hk, any2 E hk 0 2 (by decide) (by decide), _, rfl, iteN (by decide) ?_⟩
    generalize upd _ p0 _ = H1 at x1 s1 ⊢
    refine ⟨_, rfl, e, c 5, c 1, _, rfl, x1.isX, E.xc 5 hk, E.sub 5 1 hk (by decide), _, rfl, iteN (by decide) ?_⟩
    refine ⟨_, rfl, e, c 5, c 3, _, rfl, x1.isX, E.xc 5 hk, E.sub 5 3 hk (by decide), _, rfl, iteN (by decide) ?_⟩
    refine ⟨_, rfl, (by show 2 ≤ sizeLine; decide), fun p1 hp1 => ?_⟩
    have x2 := x1.same ((Same.refl _).put (o := .tup [.ref (c 4), .ref (c 6)]) hp1)
    have s2 := s1.trans ((Same.refl _).put (o := .tup [.ref (c 4), .ref (c 6)]) hp1)
    refine ⟨e, c 5, p1, [c 4, c 6], _, rfl, upd_same, x2.isX, E.xc 5 hk, any2 E hk 4 6 (by decide) (by decide), _, rfl, iteN (by decide) ?_⟩
    generalize upd _ p1 _ = H2 at x2 s2 ⊢
    refine ⟨_, rfl, e, c 5, c 5, _, rfl, x2.isX, E.xc 5 hk, E.sub 5 5 hk (by decide), _, rfl, iteY (by decide) ?_⟩
    obtain ⟨od, ex, ⟨_, d, rfl, ed⟩ | ⟨h8, _⟩⟩ := x2
    · refine ⟨_, rfl, e, c 5, d, false, _, _, rfl, ex, ed, E.xc 5 hk, E.no 5 hk _ (by decide), rfl, _, rfl, e, c 5, d, false, _, _, rfl, ex, ed, E.xc 5 hk, E.no 5 hk _ (by decide), rfl, _, rfl, e, c 5, d, false, _, _, rfl, ex, ed, E.xc 5 hk, E.no 5 hk _ (by decide), rfl, (by show 3 ≤ sizeLine; decide), fun t ht => ?_⟩
      exact q t _ (s2.free ht) (s2.put (s2.free ht)) upd_same
    · omega
  | 6, hk =>
    have s0 : Same H H := Same.refl H
    refine ⟨_, rfl, (by show 2 ≤ sizeLine; decide), fun p0 hp0 => ?_⟩
    have x1 := x.same ((Same.refl _).put (o := .tup [.ref (c 0), .ref (c 2)]) hp0)
    have s1 := s0.trans ((Same.refl _).put (o := .tup [.ref (c 0), .ref (c 2)]) hp0)
    refine ⟨e, c 6, p0, [c 0, c 2], _, rfl, upd_same, x1.isX, E.xc 6 hk, any2 E hk 0 2 (by decide) (by decide), _, rfl, iteN (by decide) ?_⟩
    generalize upd _ p0 _ = H1 at x1 s1 ⊢
    refine ⟨_, rfl, e, c 6, c 1, _, rfl, x1.isX, E.xc 6 hk, E.sub 6 1 hk (by decide), _, rfl, iteN (by decide) ?_⟩
    refine ⟨_, rfl, e, c 6, c 3, _, rfl, x1.isX, E.xc 6 hk, E.sub 6 3 hk (by decide), _, rfl, iteN (by decide) ?_⟩
    refine ⟨_, rfl, (by show 2 ≤ sizeLine; decide), fun p1 hp1 => ?_⟩
    have x2 := x1.same ((Same.refl _).put (o := .tup [.ref (c 4), .ref (c 6)]) hp1)
    have s2 := s1.trans ((Same.refl _).put (o := .tup [.ref (c 4), .ref (c 6)]) hp1)
    refine ⟨e, c 6, p1, [c 4, c 6], _, rfl, upd_same, x2.isX, E.xc 6 hk, any2 E hk 4 6 (by decide) (by decide), _, rfl, iteY (by decide) ?_⟩
    generalize upd _ p1 _ = H2 at x2 s2 ⊢
    obtain ⟨od, ex, ⟨_, d, rfl, ed⟩ | ⟨h8, _⟩⟩ := x2
    · refine ⟨_, rfl, e, c 6, d, false, _, _, rfl, ex, ed, E.xc 6 hk, E.no 6 hk _ (by decide), rfl, (by show 1 ≤ sizeLine; decide), fun t ht => ?_⟩
      exact q t _ (s2.free ht) (s2.put (s2.free ht)) upd_same
    · omega
  | 7, hk =>
    have s0 : Same H H := Same.refl H
    refine ⟨_, rfl, (by show 2 ≤ sizeLine; decide), fun p0 hp0 => ?_⟩
    have x1 := x.same ((Same.refl _).put (o := .tup [.ref (c 0), .ref (c 2)]) hp0)
    have s1 := s0.trans ((Same.refl _).put (o := .tup [.ref (c 0), .ref (c 2)]) hp0)
    refine ⟨e, c 7, p0, [c 0, c 2], _, rfl, upd_same, x1.isX, E.xc 7 hk, any2 E hk 0 2 (by decide) (by decide), _, rfl, iteN (by decide) ?_⟩
    generalize upd _ p0 _ = H1 at x1 s1 ⊢
    refine ⟨_, rfl, e, c 7, c 1, _, rfl, x1.isX, E.xc 7 hk, E.sub 7 1 hk (by decide), _, rfl, iteN (by decide) ?_⟩
    refine ⟨_, rfl, e, c 7, c 3, _, rfl, x1.isX, E.xc 7 hk, E.sub 7 3 hk (by decide), _, rfl, iteN (by decide) ?_⟩
    refine ⟨_, rfl, (by show 2 ≤ sizeLine; decide), fun p1 hp1 => ?_⟩
    have x2 := x1.same ((Same.refl _).put (o := .tup [.ref (c 4), .ref (c 6)]) hp1)
    have s2 := s1.trans ((Same.refl _).put (o := .tup [.ref (c 4), .ref (c 6)]) hp1)
    refine ⟨e, c 7, p1, [c 4, c 6], _, rfl, upd_same, x2.isX, E.xc 7 hk, any2 E hk 4 6 (by decide) (by decide), _, rfl, iteN (by decide) ?_⟩
    generalize upd _ p1 _ = H2 at x2 s2 ⊢
    refine ⟨_, rfl, e, c 7, c 5, _, rfl, x2.isX, E.xc 7 hk, E.sub 7 5 hk (by decide), _, rfl, iteN (by decide) ?_⟩
    refine ⟨_, rfl, e, c 7, c 7, _, rfl, x2.isX, E.xc 7 hk, E.sub 7 7 hk (by decide), _, rfl, iteY (by decide) ?_⟩
    obtain ⟨od, ex, ⟨_, d, rfl, ed⟩ | ⟨h8, _⟩⟩ := x2
    · refine ⟨_, rfl, e, c 7, d, false, _, _, rfl, ex, ed, E.xc 7 hk, E.no 7 hk _ (by decide), rfl, (by show 1 ≤ sizeLine; decide), fun t ht => ?_⟩
      exact q t _ (s2.free ht) (s2.put (s2.free ht)) upd_same
    · omega
  | 8, hk =>
    have s0 : Same H H := Same.refl H
    refine ⟨_, rfl, (by show 2 ≤ sizeLine; decide), fun p0 hp0 => ?_⟩
    have x1 := x.same ((Same.refl _).put (o := .tup [.ref (c 0), .ref (c 2)]) hp0)
    have s1 := s0.trans ((Same.refl _).put (o := .tup [.ref (c 0), .ref (c 2)]) hp0)
    refine ⟨e, c 8, p0, [c 0, c 2], _, rfl, upd_same, x1.isX, E.xc 8 hk, any2 E hk 0 2 (by decide) (by decide), _, rfl, iteN (by decide) ?_⟩
    generalize upd _ p0 _ = H1 at x1 s1 ⊢
    refine ⟨_, rfl, e, c 8, c 1, _, rfl, x1.isX, E.xc 8 hk, E.sub 8 1 hk (by decide), _, rfl, iteN (by decide) ?_⟩
    refine ⟨_, rfl, e, c 8, c 3, _, rfl, x1.isX, E.xc 8 hk, E.sub 8 3 hk (by decide), _, rfl, iteN (by decide) ?_⟩
    refine ⟨_, rfl, (by show 2 ≤ sizeLine; decide), fun p1 hp1 => ?_⟩
    have x2 := x1.same ((Same.refl _).put (o := .tup [.ref (c 4), .ref (c 6)]) hp1)
    have s2 := s1.trans ((Same.refl _).put (o := .tup [.ref (c 4), .ref (c 6)]) hp1)
    refine ⟨e, c 8, p1, [c 4, c 6], _, rfl, upd_same, x2.isX, E.xc 8 hk, any2 E hk 4 6 (by decide) (by decide), _, rfl, iteN (by decide) ?_⟩
    generalize upd _ p1 _ = H2 at x2 s2 ⊢
    refine ⟨_, rfl, e, c 8, c 5, _, rfl, x2.isX, E.xc 8 hk, E.sub 8 5 hk (by decide), _, rfl, iteN (by decide) ?_⟩
    refine ⟨_, rfl, e, c 8, c 7, _, rfl, x2.isX, E.xc 8 hk, E.sub 8 7 hk (by decide), _, rfl, iteN (by decide) ?_⟩
    refine ⟨(by show 0 ≤ sizeLine; decide), fun t ht => ?_⟩
    exact q t _ (s2.free ht) (s2.put (s2.free ht)) upd_same
  | 9, hk =>
    have s0 : Same H H := Same.refl H
    refine ⟨_, rfl, (by show 2 ≤ sizeLine; decide), fun p0 hp0 => ?_⟩
    have x1 := x.same ((Same.refl _).put (o := .tup [.ref (c 0), .ref (c 2)]) hp0)
    have s1 := s0.trans ((Same.refl _).put (o := .tup [.ref (c 0), .ref (c 2)]) hp0)
    refine ⟨e, c 9, p0, [c 0, c 2], _, rfl, upd_same, x1.isX, E.xc 9 hk, any2 E hk 0 2 (by decide) (by decide), _, rfl, iteN (by decide) ?_⟩
    generalize upd _ p0 _ = H1 at x1 s1 ⊢
    refine ⟨_, rfl, e, c 9, c 1, _, rfl, x1.isX, E.xc 9 hk, E.sub 9 1 hk (by decide), _, rfl, iteN (by decide) ?_⟩
    refine ⟨_, rfl, e, c 9, c 3, _, rfl, x1.isX, E.xc 9 hk, E.sub 9 3 hk (by decide), _, rfl, iteN (by decide) ?_⟩
    refine ⟨_, rfl, (by show 2 ≤ sizeLine; decide), fun p1 hp1 => ?_⟩
    have x2 := x1.same ((Same.refl _).put (o := .tup [.ref (c 4), .ref (c 6)]) hp1)
    have s2 := s1.trans ((Same.refl _).put (o := .tup [.ref (c 4), .ref (c 6)]) hp1)
    refine ⟨e, c 9, p1, [c 4, c 6], _, rfl, upd_same, x2.isX, E.xc 9 hk, any2 E hk 4 6 (by decide) (by decide), _, rfl, iteN (by decide) ?_⟩
    generalize upd _ p1 _ = H2 at x2 s2 ⊢
    refine ⟨_, rfl, e, c 9, c 5, _, rfl, x2.isX, E.xc 9 hk, E.sub 9 5 hk (by decide), _, rfl, iteN (by decide) ?_⟩
    refine ⟨_, rfl, e, c 9, c 7, _, rfl, x2.isX, E.xc 9 hk, E.sub 9 7 hk (by decide), _, rfl, iteN (by decide) ?_⟩
    refine ⟨(by show 0 ≤ sizeLine; decide), fun t ht => ?_⟩
    exact q t _ (s2.free ht) (s2.put (s2.free ht)) upd_same
theorem ok_sorts (E : Exs K mg M c) (F : Fun K "_law_sorts" "_law_sorts" s_law_sorts f fd) (m : Bn mg) : FnOk P w K mg base CX0 1 f fd ["_law_e"] (spSorts c) := by
  refine F.ok sc_law_sorts (fun vs H Q E h => ?_) (fun cdv A outer s H vs Q _ hr h => ?_)
  · obtain ⟨e, n, w, p, k, rfl, _⟩ := h
    rfl
  obtain ⟨e, n, w', p, k, rfl, hk, x, q⟩ := h
  have x_BadByte := E.BadByte
  have x_NoPlace := E.NoPlace
  have x_BadText := E.BadText
  have x_BadItem := E.BadItem
  have x_BadDeed := E.BadDeed
  have x_NoTable := E.NoTable
  have x_NoMove := E.NoMove
  have x_NoFile := E.NoFile
  have x_NoValue := E.NoValue
  have x_NoRow := E.NoRow
  refine ⟨_, (@pss_cons _ _ _ _ _ (@ps_setI _ 1 _ _ _ _ _ sc_law_sorts.nd rfl (by first | exact Or.inl rfl | exact Or.inr rfl) (@pe_lst _ _ _ _ (@pa_cons _ _ _ _ _ (@pe_callB _ _ _ _ _ _ _ _ _ call_isiX rfl m.isinstance b_isinstance (@pa_cons _ _ _ _ _ (pv 0) (@pa_cons _ _ _ _ _ (@pe_globR _ _ _ _ rfl x_BadByte (by decide)) pa_nil rfl) rfl) (by decide) (by decide) rfl rfl) (@pa_cons _ _ _ _ _ (@pe_callB _ _ _ _ _ _ _ _ _ call_isiX rfl m.isinstance b_isinstance (@pa_cons _ _ _ _ _ (pv 0) (@pa_cons _ _ _ _ _ (@pe_globR _ _ _ _ rfl x_NoPlace (by decide)) pa_nil rfl) rfl) (by decide) (by decide) rfl rfl) (@pa_cons _ _ _ _ _ (@pe_callB _ _ _ _ _ _ _ _ _ call_isiX rfl m.isinstance b_isinstance (@pa_cons _ _ _ _ _ (pv 0) (@pa_cons _ _ _ _ _ (@pe_globR _ _ _ _ rfl x_BadText (by decide)) pa_nil rfl) rfl) (by decide) (by decide) rfl rfl) (@pa_cons _ _ _ _ _ (@pe_callB _ _ _ _ _ _ _ _ _ call_isiX rfl m.isinstance b_isinstance (@pa_cons _ _ _ _ _ (pv 0) (@pa_cons _ _ _ _ _ (@pe_globR _ _ _ _ rfl x_BadItem (by decide)) pa_nil rfl) rfl) (by decide) (by decide) rfl rfl) pa_nil rfl) rfl) rfl) rfl)) rfl (by first | exact .inl rfl | exact .inr rfl)) (@pss_cons _ _ _ _ _ (@ps_setI _ 1 _ _ _ _ _ sc_law_sorts.nd rfl (by first | exact Or.inl rfl | exact Or.inr rfl) (@pe_op _ _ _ _ _ _ _ _ op_cat (pv 1) (@pe_lst _ _ _ _ (@pa_cons _ _ _ _ _ (@pe_callB _ _ _ _ _ _ _ _ _ call_isiX rfl m.isinstance b_isinstance (@pa_cons _ _ _ _ _ (pv 0) (@pa_cons _ _ _ _ _ (@pe_globR _ _ _ _ rfl x_BadDeed (by decide)) pa_nil rfl) rfl) (by decide) (by decide) rfl rfl) (@pa_cons _ _ _ _ _ (@pe_callB _ _ _ _ _ _ _ _ _ call_isiX rfl m.isinstance b_isinstance (@pa_cons _ _ _ _ _ (pv 0) (@pa_cons _ _ _ _ _ (@pe_globR _ _ _ _ rfl x_NoTable (by decide)) pa_nil rfl) rfl) (by decide) (by decide) rfl rfl) (@pa_cons _ _ _ _ _ (@pe_callB _ _ _ _ _ _ _ _ _ call_isiX rfl m.isinstance b_isinstance (@pa_cons _ _ _ _ _ (pv 0) (@pa_cons _ _ _ _ _ (@pe_globR _ _ _ _ rfl x_NoMove (by decide)) pa_nil rfl) rfl) (by decide) (by decide) rfl rfl) (@pa_cons _ _ _ _ _ (@pe_callB _ _ _ _ _ _ _ _ _ call_isiX rfl m.isinstance b_isinstance (@pa_cons _ _ _ _ _ (pv 0) (@pa_cons _ _ _ _ _ (@pe_globR _ _ _ _ rfl x_NoFile (by decide)) pa_nil rfl) rfl) (by decide) (by decide) rfl rfl) pa_nil rfl) rfl) rfl) rfl))) rfl (by first | exact .inl rfl | exact .inr rfl)) (@pss_one _ _ _ (@ps_ret _ _ _ _ (@pe_op _ _ _ _ _ _ _ _ op_cat (pv 1) (@pe_lst _ _ _ _ (@pa_cons _ _ _ _ _ (@pe_callB _ _ _ _ _ _ _ _ _ call_isiX rfl m.isinstance b_isinstance (@pa_cons _ _ _ _ _ (pv 0) (@pa_cons _ _ _ _ _ (@pe_globR _ _ _ _ rfl x_NoValue (by decide)) pa_nil rfl) rfl) (by decide) (by decide) rfl rfl) (@pa_cons _ _ _ _ _ (@pe_callB _ _ _ _ _ _ _ _ _ call_isiX rfl m.isinstance b_isinstance (@pa_cons _ _ _ _ _ (pv 0) (@pa_cons _ _ _ _ _ (@pe_globR _ _ _ _ rfl x_NoRow (by decide)) pa_nil rfl) rfl) (by decide) (by decide) rfl rfl) pa_nil rfl) rfl))))))), ?_⟩
  refine ⟨_, rfl, e, c k, c 0, _, rfl, x.isX, E.xc k hk, E.sub k 0 hk (by decide), _, rfl, e, c k, c 1, _, rfl, x.isX, E.xc k hk, E.sub k 1 hk (by decide), _, rfl, e, c k, c 2, _, rfl, x.isX, E.xc k hk, E.sub k 2 hk (by decide), _, rfl, e, c k, c 3, _, rfl, x.isX, E.xc k hk, E.sub k 3 hk (by decide), (by show 4 ≤ sizeLine; decide), fun l1 h1 => ?_⟩
  have s1 := (Same.refl H).put (H1 := H) (o := .lst [.bl (decide (k = 0)), .bl (decide (k = 1)), .bl (decide (k = 2)), .bl (decide (k = 3))]) h1
  have x1 := x.same s1
  refine ⟨_, rfl, _, rfl, e, c k, c 4, _, rfl, x1.isX, E.xc k hk, E.sub k 4 hk (by decide), _, rfl, e, c k, c 5, _, rfl, x1.isX, E.xc k hk, E.sub k 5 hk (by decide), _, rfl, e, c k, c 6, _, rfl, x1.isX, E.xc k hk, E.sub k 6 hk (by decide), _, rfl, e, c k, c 7, _, rfl, x1.isX, E.xc k hk, E.sub k 7 hk (by decide), (by show 4 ≤ sizeLine; decide), fun l2 h2 => ?_⟩
  have n12 : l1 ≠ l2 := ne_of_none upd_same h2
  refine ⟨l1, l2, _, _, rfl, rfl, (by rw [upd_ne n12]; exact upd_same), upd_same, (by show 8 ≤ sizeLine; decide), fun l3 h3 => ?_⟩
  have s3 := (s1.put (o := .lst [.bl (decide (k = 4)), .bl (decide (k = 5)), .bl (decide (k = 6)), .bl (decide (k = 7))]) (s1.free h2)).put (o := .lst ([.bl (decide (k = 0)), .bl (decide (k = 1)), .bl (decide (k = 2)), .bl (decide (k = 3))] ++ [.bl (decide (k = 4)), .bl (decide (k = 5)), .bl (decide (k = 6)), .bl (decide (k = 7))])) ((s1.put (s1.free h2)).free h3)
  have x3 := x.same s3
  refine ⟨_, rfl, _, rfl, e, c k, c 8, _, rfl, x3.isX, E.xc k hk, E.sub k 8 hk (by decide), _, rfl, e, c k, c 9, _, rfl, x3.isX, E.xc k hk, E.sub k 9 hk (by decide), (by show 2 ≤ sizeLine; decide), fun l4 h4 => ?_⟩
  have n34 : l3 ≠ l4 := ne_of_none upd_same h4
  refine ⟨l3, l4, _, _, rfl, rfl, (by rw [upd_ne n34]; exact upd_same), upd_same, (by show 10 ≤ sizeLine; decide), fun l5 h5 => ?_⟩
  have s4 := s3.put (o := .lst [.bl (decide (k = 8)), .bl (decide (k = 9))]) (s3.free h4)
  exact q l5 _ (s4.free h5) (s4.put (s4.free h5)) upd_same
end
end K97
namespace K97
open PySem PySem.Spec PyProof.Rows L2
abbrev s_law_raised : Stmt := top 17
abbrev N_law_raised : List Str := ["_law_k", "_law_number", "_law_word", "_law_path", "_law_caught", "_law_e"]
theorem sc_law_raised : FnScope N_law_raised ["_law_k", "_law_number", "_law_word", "_law_path"] (defScope s_law_raised) := ⟨rfl, rfl, rfl, by decide +kernel, rfl, by decide +kernel, by decide +kernel⟩
/-- the classes are made -/
structure Mks (P : Program) (w : World) (K : PySem.W.Frag) (mg : Str → Option Value) (base : Heap) (c : Nat → Addr) : Prop where
  BadByte : ∃ g fd, XMk K (c 0) g ∧ FnOk P w K mg base CX0 1 g fd ["self", "at"] (spInit (c 0) ["at"]) ∧ Binds K fd ["self", "at"] []
  NoPlace : ∃ g fd, XMk K (c 1) g ∧ FnOk P w K mg base CX0 1 g fd ["self", "step"] (spInit (c 1) ["step"]) ∧ Binds K fd ["self", "step"] []
  BadText : ∃ g fd, XMk K (c 2) g ∧ FnOk P w K mg base CX0 1 g fd ["self", "at"] (spInit (c 2) ["at"]) ∧ Binds K fd ["self", "at"] []
  BadItem : ∃ g fd, XMk K (c 3) g ∧ FnOk P w K mg base CX0 1 g fd ["self", "path"] (spInit (c 3) ["path"]) ∧ Binds K fd ["self", "path"] []
  BadDeed : ∃ g fd, XMk K (c 4) g ∧ FnOk P w K mg base CX0 1 g fd ["self", "word"] (spInit (c 4) ["word"]) ∧ Binds K fd ["self", "word"] []
  NoTable : ∃ g fd, XMk K (c 5) g ∧ FnOk P w K mg base CX0 1 g fd ["self", "one", "other", "word"] (spInit (c 5) ["one", "other", "word"]) ∧ Binds K fd ["self", "one", "other", "word"] []
  NoMove : ∃ g fd, XMk K (c 6) g ∧ FnOk P w K mg base CX0 1 g fd ["self", "word"] (spInit (c 6) ["word"]) ∧ Binds K fd ["self", "word"] []
  NoFile : ∃ g fd, XMk K (c 7) g ∧ FnOk P w K mg base CX0 1 g fd ["self", "number"] (spInit (c 7) ["number"]) ∧ Binds K fd ["self", "number"] []
  NoValue : XMk0 K (c 8)
  NoRow : XMk0 K (c 9)
def spRaised (c : Nat → Addr) : Sp := fun vs H Q _ => ∃ (n w p : V) (k : Nat), vs = [.int k, n, w, p] ∧ k < 10 ∧ ∀ (e : Addr) (H' : Hp), H e = none → Same H H' → XF c H' e n w p k → Q (.ref e) H'
/-- what is wanted of an exception within the try -/
def Wsh (c : Nat → Addr) (H : Hp) (n w p : V) (k : Nat) : L2.St → Hp → Addr → Addr → Option Addr → Prop := fun σ' H' e C od =>
  σ' = [some (.int k), some n, some w, some p, some .non, none] ∧ Same H H' ∧ H e = none ∧ C = c k ∧ ((k < 8 ∧ ∃ d, od = some d ∧ d ≠ e ∧ H' d = some (DHO d (fl n w p k))) ∨ (8 ≤ k ∧ od = none))
theorem made_same {H H' : Hp} {x d : Addr} {o : HO} (hx : H x = none) (hd : upd H x o d = none) (nd : d ≠ x) (k : ∀ b, b ≠ x → b ≠ d → H' b = upd H x o b) : Same H H' := fun b u q => by
  have n1 : b ≠ x := ne_of_none q hx
  rw [upd_ne nd] at hd
  have n2 : b ≠ d := ne_of_none q hd
  rw [k b n1 n2, upd_ne n1]; exact q
section
variable {P : Program} {w : World} {K : PySem.W.Frag} {mg : Str → Option Value} {base : Heap} {f : Addr} {fd : FuncData} {M : Addr} {c : Nat → Addr}
theorem ok_raised (E : Exs K mg M c) (Z : Mks P w K mg base c) (F : Fun K "_law_raised" "_law_raised" s_law_raised f fd) : FnOk P w K mg base CX0 3 f fd ["_law_k", "_law_number", "_law_word", "_law_path"] (spRaised c) := by
  refine F.ok sc_law_raised (fun vs H Q E h => ?_) (fun cdv A outer s H vs Q _ hr h => ?_)
  · obtain ⟨n, w, p, k, rfl, _⟩ := h
    rfl
  obtain ⟨n, w', p, k, rfl, hk, q⟩ := h
  obtain ⟨g0, d0, mk_BadByte, f_BadByte, bi_BadByte⟩ := Z.BadByte
  obtain ⟨g1, d1, mk_NoPlace, f_NoPlace, bi_NoPlace⟩ := Z.NoPlace
  obtain ⟨g2, d2, mk_BadText, f_BadText, bi_BadText⟩ := Z.BadText
  obtain ⟨g3, d3, mk_BadItem, f_BadItem, bi_BadItem⟩ := Z.BadItem
  obtain ⟨g4, d4, mk_BadDeed, f_BadDeed, bi_BadDeed⟩ := Z.BadDeed
  obtain ⟨g5, d5, mk_NoTable, f_NoTable, bi_NoTable⟩ := Z.NoTable
  obtain ⟨g6, d6, mk_NoMove, f_NoMove, bi_NoMove⟩ := Z.NoMove
  obtain ⟨g7, d7, mk_NoFile, f_NoFile, bi_NoFile⟩ := Z.NoFile
  have mk_NoValue := Z.NoValue
  have mk_NoRow := Z.NoRow
  have x_BadByte := E.BadByte
  have x_NoPlace := E.NoPlace
  have x_BadText := E.BadText
  have x_BadItem := E.BadItem
  have x_BadDeed := E.BadDeed
  have x_NoTable := E.NoTable
  have x_NoMove := E.NoMove
  have x_NoFile := E.NoFile
  have x_NoValue := E.NoValue
  have x_NoRow := E.NoRow
  have x_MakeError := E.MakeError
  have xc_MakeError := E.xm
  generalize hW : Wsh c H n w' p k = W
  refine ⟨_, (@pss_cons _ _ _ _ _ (@ps_setI _ 4 _ _ _ _ _ sc_law_raised.nd rfl (by first | exact Or.inl rfl | exact Or.inr rfl) pe_non rfl (by first | exact .inl rfl | exact .inr rfl)) (@pss_cons _ _ _ _ _ (@ps_tryI _ W 5 _ _ _ _ _ _ _ _ _ _ _ (fun pn =>  (@pss_cons _ _ _ _ _ (@ps_if _ _ _ _ _ _ _ _ (@pt_cmpR _ _ _ _ _ _ _ _ op_eq (pv 0) pe_int (nomark _)) (@pss_one _ _ _ (@ps_raise _ _ _ _ _ _ (@pe_mkX _ _ _ _ _ _ _ _ _ _ _ _ _ _ _ mk_BadByte f_BadByte (hr.mono (by omega)) rfl x_BadByte bi_BadByte pass0 (@pa_cons _ _ _ _ _ (pv 1) pa_nil rfl) (by decide) rfl rfl) rfl)) pss_nil) (@pss_cons _ _ _ _ _ (@ps_if _ _ _ _ _ _ _ _ (@pt_cmpR _ _ _ _ _ _ _ _ op_eq (pv 0) pe_int (nomark _)) (@pss_one _ _ _ (@ps_raise _ _ _ _ _ _ (@pe_mkX _ _ _ _ _ _ _ _ _ _ _ _ _ _ _ mk_NoPlace f_NoPlace (hr.mono (by omega)) rfl x_NoPlace bi_NoPlace pass0 (@pa_cons _ _ _ _ _ (pv 1) pa_nil rfl) (by decide) rfl rfl) rfl)) pss_nil) (@pss_cons _ _ _ _ _ (@ps_if _ _ _ _ _ _ _ _ (@pt_cmpR _ _ _ _ _ _ _ _ op_eq (pv 0) pe_int (nomark _)) (@pss_one _ _ _ (@ps_raise _ _ _ _ _ _ (@pe_mkX _ _ _ _ _ _ _ _ _ _ _ _ _ _ _ mk_BadText f_BadText (hr.mono (by omega)) rfl x_BadText bi_BadText pass0 (@pa_cons _ _ _ _ _ (pv 1) pa_nil rfl) (by decide) rfl rfl) rfl)) pss_nil) (@pss_cons _ _ _ _ _ (@ps_if _ _ _ _ _ _ _ _ (@pt_cmpR _ _ _ _ _ _ _ _ op_eq (pv 0) pe_int (nomark _)) (@pss_one _ _ _ (@ps_raise _ _ _ _ _ _ (@pe_mkX _ _ _ _ _ _ _ _ _ _ _ _ _ _ _ mk_BadItem f_BadItem (hr.mono (by omega)) rfl x_BadItem bi_BadItem pass0 (@pa_cons _ _ _ _ _ (pv 3) pa_nil rfl) (by decide) rfl rfl) rfl)) pss_nil) (@pss_cons _ _ _ _ _ (@ps_if _ _ _ _ _ _ _ _ (@pt_cmpR _ _ _ _ _ _ _ _ op_eq (pv 0) pe_int (nomark _)) (@pss_one _ _ _ (@ps_raise _ _ _ _ _ _ (@pe_mkX _ _ _ _ _ _ _ _ _ _ _ _ _ _ _ mk_BadDeed f_BadDeed (hr.mono (by omega)) rfl x_BadDeed bi_BadDeed pass0 (@pa_cons _ _ _ _ _ (pv 2) pa_nil rfl) (by decide) rfl rfl) rfl)) pss_nil) (@pss_cons _ _ _ _ _ (@ps_if _ _ _ _ _ _ _ _ (@pt_cmpR _ _ _ _ _ _ _ _ op_eq (pv 0) pe_int (nomark _)) (@pss_one _ _ _ (@ps_raise _ _ _ _ _ _ (@pe_mkX _ _ _ _ _ _ _ _ _ _ _ _ _ _ _ mk_NoTable f_NoTable (hr.mono (by omega)) rfl x_NoTable bi_NoTable pass0 (@pa_cons _ _ _ _ _ (pv 2) (@pa_cons _ _ _ _ _ pe_str (@pa_cons _ _ _ _ _ pe_str pa_nil rfl) rfl) rfl) (by decide) rfl rfl) rfl)) pss_nil) (@pss_cons _ _ _ _ _ (@ps_if _ _ _ _ _ _ _ _ (@pt_cmpR _ _ _ _ _ _ _ _ op_eq (pv 0) pe_int (nomark _)) (@pss_one _ _ _ (@ps_raise _ _ _ _ _ _ (@pe_mkX _ _ _ _ _ _ _ _ _ _ _ _ _ _ _ mk_NoMove f_NoMove (hr.mono (by omega)) rfl x_NoMove bi_NoMove pass0 (@pa_cons _ _ _ _ _ (pv 2) pa_nil rfl) (by decide) rfl rfl) rfl)) pss_nil) (@pss_cons _ _ _ _ _ (@ps_if _ _ _ _ _ _ _ _ (@pt_cmpR _ _ _ _ _ _ _ _ op_eq (pv 0) pe_int (nomark _)) (@pss_one _ _ _ (@ps_raise _ _ _ _ _ _ (@pe_mkX _ _ _ _ _ _ _ _ _ _ _ _ _ _ _ mk_NoFile f_NoFile (hr.mono (by omega)) rfl x_NoFile bi_NoFile pass0 (@pa_cons _ _ _ _ _ (pv 1) pa_nil rfl) (by decide) rfl rfl) rfl)) pss_nil) (@pss_cons _ _ _ _ _ (@ps_if _ _ _ _ _ _ _ _ (@pt_cmpR _ _ _ _ _ _ _ _ op_eq (pv 0) pe_int (nomark _)) (@pss_one _ _ _ (@ps_raise _ _ _ _ _ _ (@pe_mkX0 _ _ _ _ _ _ _ _ mk_NoValue rfl x_NoValue (@pa_cons _ _ _ _ _ (pv 2) pa_nil rfl) (by decide) rfl rfl) rfl)) pss_nil) (@pss_one _ _ _ (@ps_raise _ _ _ _ _ _ (@pe_mkX0 _ _ _ _ _ _ _ _ mk_NoRow rfl x_NoRow (@pa_cons _ _ _ _ _ (pv 2) pa_nil rfl) (by decide) rfl rfl) rfl)))))))))))) (fun e =>  (@pss_one _ _ _ (@ps_setI _ 4 _ _ _ _ _ sc_law_raised.nd rfl (by first | exact Or.inl rfl | exact Or.inr rfl) (pv 5) rfl (by first | exact .inl rfl | exact .inr rfl)))) rfl rfl rfl x_MakeError xc_MakeError xc_MakeError.here sc_law_raised.nd rfl rfl (by decide)) (@pss_one _ _ _ (@ps_ret _ _ _ _ (pv 4))))), ?_⟩
  refine ⟨?_, ?_⟩
  · match k, hk, hW with
    | 0, hk, hW =>
      refine ⟨_, rfl, rfl, _, rfl, iteY (by decide) ?_⟩
      refine ⟨_, rfl, (by show 1 ≤ 100; decide), fun x hx => ⟨x, _, rfl, rfl, upd_same, fun d H1 hd nd kp ex ed => ⟨rfl, x, c 0, some d, rfl, ex, E.xc 0 hk, ?_⟩⟩⟩
      rw [← hW]; exact ⟨rfl, made_same hx hd nd kp, hx, rfl, .inl ⟨by decide, d, rfl, nd, ed⟩⟩
    | 1, hk, hW =>
      refine ⟨_, rfl, rfl, _, rfl, iteN (by decide) ?_⟩
      refine ⟨_, rfl, rfl, _, rfl, iteY (by decide) ?_⟩
      refine ⟨_, rfl, (by show 1 ≤ 100; decide), fun x hx => ⟨x, _, rfl, rfl, upd_same, fun d H1 hd nd kp ex ed => ⟨rfl, x, c 1, some d, rfl, ex, E.xc 1 hk, ?_⟩⟩⟩
      rw [← hW]; exact ⟨rfl, made_same hx hd nd kp, hx, rfl, .inl ⟨by decide, d, rfl, nd, ed⟩⟩
    | 2, hk, hW =>
      refine ⟨_, rfl, rfl, _, rfl, iteN (by decide) ?_⟩
      refine ⟨_, rfl, rfl, _, rfl, iteN (by decide) ?_⟩
      refine ⟨_, rfl, rfl, _, rfl, iteY (by decide) ?_⟩
      refine ⟨_, rfl, (by show 1 ≤ 100; decide), fun x hx => ⟨x, _, rfl, rfl, upd_same, fun d H1 hd nd kp ex ed => ⟨rfl, x, c 2, some d, rfl, ex, E.xc 2 hk, ?_⟩⟩⟩
      rw [← hW]; exact ⟨rfl, made_same hx hd nd kp, hx, rfl, .inl ⟨by decide, d, rfl, nd, ed⟩⟩
    | 3, hk, hW =>
      refine ⟨_, rfl, rfl, _, rfl, iteN (by decide) ?_⟩
      refine ⟨_, rfl, rfl, _, rfl, iteN (by decide) ?_⟩
      refine ⟨_, rfl, rfl, _, rfl, iteN (by decide) ?_⟩
      refine ⟨_, rfl, rfl, _, rfl, iteY (by decide) ?_⟩
      refine ⟨_, rfl, (by show 1 ≤ 100; decide), fun x hx => ⟨x, _, rfl, rfl, upd_same, fun d H1 hd nd kp ex ed => ⟨rfl, x, c 3, some d, rfl, ex, E.xc 3 hk, ?_⟩⟩⟩
      rw [← hW]; exact ⟨rfl, made_same hx hd nd kp, hx, rfl, .inl ⟨by decide, d, rfl, nd, ed⟩⟩
    | 4, hk, hW =>
      refine ⟨_, rfl, rfl, _, rfl, iteN (by decide) ?_⟩
      refine ⟨_, rfl, rfl, _, rfl, iteN (by decide) ?_⟩
      refine ⟨_, rfl, rfl, _, rfl, iteN (by decide) ?_⟩
      refine ⟨_, rfl, rfl, _, rfl, iteN (by decide) ?_⟩
      refine ⟨_, rfl, rfl, _, rfl, iteY (by decide) ?_⟩
      refine ⟨_, rfl, (by show 1 ≤ 100; decide), fun x hx => ⟨x, _, rfl, rfl, upd_same, fun d H1 hd nd kp ex ed => ⟨rfl, x, c 4, some d, rfl, ex, E.xc 4 hk, ?_⟩⟩⟩
      rw [← hW]; exact ⟨rfl, made_same hx hd nd kp, hx, rfl, .inl ⟨by decide, d, rfl, nd, ed⟩⟩
    | 5, hk, hW =>
      refine ⟨_, rfl, rfl, _, rfl, iteN (by decide) ?_⟩
      refine ⟨_, rfl, rfl, _, rfl, iteN (by decide) ?_⟩
      refine ⟨_, rfl, rfl, _, rfl, iteN (by decide) ?_⟩
      refine ⟨_, rfl, rfl, _, rfl, iteN (by decide) ?_⟩
      refine ⟨_, rfl, rfl, _, rfl, iteN (by decide) ?_⟩
      refine ⟨_, rfl, rfl, _, rfl, iteY (by decide) ?_⟩
      refine ⟨_, rfl, (by show 3 ≤ 100; decide), fun x hx => ⟨x, _, rfl, rfl, upd_same, fun d H1 hd nd kp ex ed => ⟨rfl, x, c 5, some d, rfl, ex, E.xc 5 hk, ?_⟩⟩⟩
      rw [← hW]; exact ⟨rfl, made_same hx hd nd kp, hx, rfl, .inl ⟨by decide, d, rfl, nd, ed⟩⟩
    | 6, hk, hW =>
      refine ⟨_, rfl, rfl, _, rfl, iteN (by decide) ?_⟩
      refine ⟨_, rfl, rfl, _, rfl, iteN (by decide) ?_⟩
      refine ⟨_, rfl, rfl, _, rfl, iteN (by decide) ?_⟩
      refine ⟨_, rfl, rfl, _, rfl, iteN (by decide) ?_⟩
      refine ⟨_, rfl, rfl, _, rfl, iteN (by decide) ?_⟩
      refine ⟨_, rfl, rfl, _, rfl, iteN (by decide) ?_⟩
      refine ⟨_, rfl, rfl, _, rfl, iteY (by decide) ?_⟩
      refine ⟨_, rfl, (by show 1 ≤ 100; decide), fun x hx => ⟨x, _, rfl, rfl, upd_same, fun d H1 hd nd kp ex ed => ⟨rfl, x, c 6, some d, rfl, ex, E.xc 6 hk, ?_⟩⟩⟩
      rw [← hW]; exact ⟨rfl, made_same hx hd nd kp, hx, rfl, .inl ⟨by decide, d, rfl, nd, ed⟩⟩
    | 7, hk, hW =>
      refine ⟨_, rfl, rfl, _, rfl, iteN (by decide) ?_⟩
      refine ⟨_, rfl, rfl, _, rfl, iteN (by decide) ?_⟩
      refine ⟨_, rfl, rfl, _, rfl, iteN (by decide) ?_⟩
      refine ⟨_, rfl, rfl, _, rfl, iteN (by decide) ?_⟩
      refine ⟨_, rfl, rfl, _, rfl, iteN (by decide) ?_⟩
      refine ⟨_, rfl, rfl, _, rfl, iteN (by decide) ?_⟩
      refine ⟨_, rfl, rfl, _, rfl, iteN (by decide) ?_⟩
      refine ⟨_, rfl, rfl, _, rfl, iteY (by decide) ?_⟩
      refine ⟨_, rfl, (by show 1 ≤ 100; decide), fun x hx => ⟨x, _, rfl, rfl, upd_same, fun d H1 hd nd kp ex ed => ⟨rfl, x, c 7, some d, rfl, ex, E.xc 7 hk, ?_⟩⟩⟩
      rw [← hW]; exact ⟨rfl, made_same hx hd nd kp, hx, rfl, .inl ⟨by decide, d, rfl, nd, ed⟩⟩
    | 8, hk, hW =>
      refine ⟨_, rfl, rfl, _, rfl, iteN (by decide) ?_⟩
      refine ⟨_, rfl, rfl, _, rfl, iteN (by decide) ?_⟩
      refine ⟨_, rfl, rfl, _, rfl, iteN (by decide) ?_⟩
      refine ⟨_, rfl, rfl, _, rfl, iteN (by decide) ?_⟩
      refine ⟨_, rfl, rfl, _, rfl, iteN (by decide) ?_⟩
      refine ⟨_, rfl, rfl, _, rfl, iteN (by decide) ?_⟩
      refine ⟨_, rfl, rfl, _, rfl, iteN (by decide) ?_⟩
      refine ⟨_, rfl, rfl, _, rfl, iteN (by decide) ?_⟩
      refine ⟨_, rfl, rfl, _, rfl, iteY (by decide) ?_⟩
      refine ⟨_, rfl, (by show 1 ≤ 100; decide), fun x hx => ⟨x, c 8, none, rfl, upd_same, E.xc 8 hk, ?_⟩⟩
      rw [← hW]; exact ⟨rfl, (Same.refl H).put hx, hx, rfl, .inr ⟨by decide, rfl⟩⟩
    | 9, hk, hW =>
      refine ⟨_, rfl, rfl, _, rfl, iteN (by decide) ?_⟩
      refine ⟨_, rfl, rfl, _, rfl, iteN (by decide) ?_⟩
      refine ⟨_, rfl, rfl, _, rfl, iteN (by decide) ?_⟩
      refine ⟨_, rfl, rfl, _, rfl, iteN (by decide) ?_⟩
      refine ⟨_, rfl, rfl, _, rfl, iteN (by decide) ?_⟩
      refine ⟨_, rfl, rfl, _, rfl, iteN (by decide) ?_⟩
      refine ⟨_, rfl, rfl, _, rfl, iteN (by decide) ?_⟩
      refine ⟨_, rfl, rfl, _, rfl, iteN (by decide) ?_⟩
      refine ⟨_, rfl, rfl, _, rfl, iteN (by decide) ?_⟩
      refine ⟨_, rfl, (by show 1 ≤ 100; decide), fun x hx => ⟨x, c 9, none, rfl, upd_same, E.xc 9 hk, ?_⟩⟩
      rw [← hW]; exact ⟨rfl, (Same.refl H).put hx, hx, rfl, .inr ⟨by decide, rfl⟩⟩
  · rintro σ' H' e C od he hw
    rw [← hW] at hw
    obtain ⟨rfl, s1, he0, rfl, hf⟩ := hw
    refine ⟨E.mro k hk, ?_⟩
    refine ⟨_, rfl, ?_⟩
    refine ⟨_, rfl, ?_⟩
    refine q e _ he0 (s1.put he0) ⟨od, upd_same, ?_⟩
    rcases hf with ⟨h8, d, rfl, nd, hd⟩ | ⟨h8, rfl⟩
    · refine .inl ⟨h8, d, rfl, ?_⟩
      rw [upd_ne nd]; exact hd
    · exact .inr ⟨h8, rfl⟩
end
end K97
namespace K97
open PySem PySem.Spec PyProof.Rows L2
abbrev s_law : Stmt := top 18
abbrev N_law : List Str := ["_law_script", "_law_tape_here", "_law_number", "_law_word", "_law_path", "_law_due", "_law_k", "_law_caught", "_law_sorts_here"]
theorem sc_law : FnScope N_law ["_law_script"] (defScope s_law) := ⟨rfl, rfl, rfl, by decide +kernel, rfl, by decide +kernel, by decide +kernel⟩
def spLaw (K : PySem.W.Frag) : Sp := fun vs H Q _ => ∃ (a : Addr) (ns : List Int), vs = [.ref a] ∧ SqL K H a (ns.map V.int) ∧ ns.length ≤ 63 ∧ ∀ H', Q (.bl true) H'
/-- the fields' data -/
def dl (n : Int) (w : Str) (p : D) : Nat → List D
  | 0 => [.int n]
  | 1 => [.int n]
  | 2 => [.int n]
  | 3 => [p]
  | 4 => [.str w]
  | 5 => [.str w, .str "b", .str "read"]
  | 6 => [.str w]
  | 7 => [.int n]
  | _ => []
theorem are_fl {K : PySem.W.Frag} {H : Hp} {n : Int} {w : Str} {p : D} {pv : V} (h : IsD K H p pv) : ∀ k : Nat, AreD K H (dl n w p k) ((fl (.int n) (.str w) pv k).map (·.2))
  | 0 => AreD.one rfl
  | 1 => AreD.one rfl
  | 2 => AreD.one rfl
  | 3 => AreD.one h
  | 4 => AreD.one rfl
  | 5 => ⟨_, _, rfl, rfl, _, _, rfl, rfl, _, _, rfl, rfl, rfl⟩
  | 6 => AreD.one rfl
  | 7 => AreD.one rfl
  | _ + 8 => rfl
theorem sorts_at : ∀ k, k < 10 → (sorts k)[k]? = some true := by decide
theorem sorts_one : ∀ k, k < 10 → (sorts k).countP (· == true) = 1 := by decide
theorem Tape.same {K : PySem.W.Frag} {H H' : Hp} {l sc : Addr} {ns : List Int} (t : Tape K H l sc ns) (s : Same H H') : Tape K H' l sc ns := by
  obtain ⟨⟨a, b, c, ha, hb, hc, h⟩, q, z⟩ := t
  exact ⟨⟨a, b, c, ha, hb, hc, s _ _ h⟩, s.seq q, z⟩
theorem Tape.ne {K : PySem.W.Frag} {H : Hp} {l sc p : Addr} {ns : List Int} (t : Tape K H l sc ns) (h : H p = none) : p ≠ l := fun z => by
  obtain ⟨⟨a, b, c, _, _, _, q⟩, _⟩ := t
  rw [z, q] at h; cases h
theorem Tape.net {K : PySem.W.Frag} {H : Hp} {l sc p : Addr} {ns : List Int} {xs : List V} (t : Tape K H l sc ns) (h : H p = some (.tup xs)) : p ≠ l := fun z => by
  obtain ⟨⟨a, b, c, _, _, _, q⟩, _⟩ := t
  rw [z, q] at h; cases h
/-- the four ends of a path -/
def el : Nat → D
  | 0 => .tup [.str "at", .int 2]
  | 1 => .tup [.str "key", .str "a"]
  | 2 => .tup [.str "field", .int 9]
  | _ => .tup [.str "arm", .int 1]
def pD (r j : Nat) : D := .tup (List.replicate j (el r))
theorem dp_pD : ∀ r, r < 4 → ∀ j, j < 3 → dpD (pD r j) ≤ 5 := by decide
theorem dp_dl {n : Int} {w : Str} {r j : Nat} (hr : r < 4) (hj : j < 3) (k : Nat) : dpDs (dl n w (pD r j) k) ≤ 5 := by
  have := dp_pD r hr j hj
  match k with
  | 0 => simp [dl, dpDs, dpD]
  | 1 => simp [dl, dpDs, dpD]
  | 2 => simp [dl, dpDs, dpD]
  | 3 =>
    show max (dpD (pD r j)) (dpDs []) ≤ 5
    simp only [dpDs]
    omega
  | 4 => simp [dl, dpDs, dpD]
  | 5 => simp [dl, dpDs, dpD]
  | 6 => simp [dl, dpDs, dpD]
  | 7 => simp [dl, dpDs, dpD]
  | _ + 8 => simp [dl, dpDs]
theorem is_el {K : PySem.W.Frag} {H : Hp} {q : Addr} : ∀ {r : Nat} {xs : List V}, H q = some (.tup xs) → (match r with | 0 => xs = [.str "at", .int 2] | 1 => xs = [.str "key", .str "a"] | 2 => xs = [.str "field", .int 9] | _ => xs = [.str "arm", .int 1]) → IsD K H (el r) (.ref q)
  | 0, xs, h, e => by subst e; exact ⟨q, _, rfl, SqT.of h, AreD.two rfl rfl⟩
  | 1, xs, h, e => by subst e; exact ⟨q, _, rfl, SqT.of h, AreD.two rfl rfl⟩
  | 2, xs, h, e => by subst e; exact ⟨q, _, rfl, SqT.of h, AreD.two rfl rfl⟩
  | _ + 3, xs, h, e => by subst e; exact ⟨q, _, rfl, SqT.of h, AreD.two rfl rfl⟩
theorem noL_el : ∀ r : Nat, noL (el r) = true
  | 0 => rfl
  | 1 => rfl
  | 2 => rfl
  | _ + 3 => rfl
theorem noL_pD : ∀ r, r < 4 → ∀ j, j < 3 → noL (pD r j) = true := by decide
/-- a draw's turn keeps what the tuples say -/
theorem Kept.up {K : PySem.W.Frag} {H H' : Hp} {l sc : Addr} {ns : List Int} (k : Kept l H H') (t : Tape K H l sc ns) : Up K H H' := fun a xs h => by
  obtain ⟨⟨_, _, _, _, _, _, q⟩, _⟩ := t
  rcases h with (h | ⟨o, h⟩) | h
  · refine .inl (.inl (k _ _ (fun z => ?_) h))
    rw [z, q] at h; cases h
  · refine .inl (.inr ⟨o, k _ _ (fun z => ?_) h⟩)
    rw [z, q] at h; cases h
  · exact .inr h
theorem atI4 {α : Type} {a b c d : α} {r : Int} (h0 : 0 ≤ r) (h1 : r < 4) : ∃ x, atI [a, b, c, d] r = some x ∧ ((r = 0 ∧ x = a) ∨ (r = 1 ∧ x = b) ∨ (r = 2 ∧ x = c) ∨ (r = 3 ∧ x = d)) := by
  rcases (by omega : r = 0 ∨ r = 1 ∨ r = 2 ∨ r = 3) with e | e | e | e
  · subst e; exact ⟨a, rfl, .inl ⟨rfl, rfl⟩⟩
  · subst e; exact ⟨b, rfl, .inr (.inl ⟨rfl, rfl⟩)⟩
  · subst e; exact ⟨c, rfl, .inr (.inr (.inl ⟨rfl, rfl⟩))⟩
  · subst e; exact ⟨d, rfl, .inr (.inr (.inr ⟨rfl, rfl⟩))⟩
section
variable {P : Program} {w : World} {K : PySem.W.Frag} {mg : Str → Option Value} {base : Heap} {f : Addr} {fd : FuncData} {M : Addr} {c : Nat → Addr}
theorem ok_law (E : Exs K mg M c) (F : Fun K "law" "law" s_law f fd) (m : Bn mg) (g_law_tape : Fn P w K mg base 1 "_law_tape" ["_law_script"] (spTape K)) (g_law_next : Fn P w K mg base 1 "_law_next" ["_law_tape_here", "_law_many"] (spNext K))
    (g_law_fields : Fn P w K mg base 1 "_law_fields" ["_law_e"] (spFields c)) (g_law_sorts : Fn P w K mg base 1 "_law_sorts" ["_law_e"] (spSorts c)) (g_law_raised : Fn P w K mg base 3 "_law_raised" ["_law_k", "_law_number", "_law_word", "_law_path"] (spRaised c)) :
    FnOk P w K mg base CX0 4 f fd ["_law_script"] (spLaw K) := by
  refine F.ok sc_law (fun vs H Q E h => ?_) (fun cdv A outer s H vs Q E2 hr h => ?_)
  · obtain ⟨a, ns, rfl, _⟩ := h
    rfl
  obtain ⟨a, ns, rfl, hS, h63, q⟩ := h
  obtain ⟨t5', hT, tail⟩ : ∃ t, PSs (cxOf CX0 P w K mg base N_law "law" (defScope s_law) f cdv A outer s H E2).nox ((defBody s_law).drop 4) t ∧
      ∀ (n : Int) (ws : Str) (r j : Nat) (pv : V) (o1 : Option V) (H9 : Hp), r < 4 → j < 3 → IsD K H9 (pD r j) pv →
        t { nx := fun _ H' => Q .non H', rt := Q } [some (.ref a), o1, some (.int n), some (.str ws), some pv, none, none, none, none] H9 := by
    refine ⟨_, (@pss_cons _ _ _ _ _ (@ps_setI _ 5 _ _ _ _ _ sc_law.nd rfl (by first | exact Or.inl rfl | exact Or.inr rfl) (@pe_lst _ _ _ _ (@pa_cons _ _ _ _ _ (@pe_tup _ _ _ _ _ (@pa_cons _ _ _ _ _ (pv 2) pa_nil rfl)) (@pa_cons _ _ _ _ _ (@pe_tup _ _ _ _ _ (@pa_cons _ _ _ _ _ (pv 2) pa_nil rfl)) (@pa_cons _ _ _ _ _ (@pe_tup _ _ _ _ _ (@pa_cons _ _ _ _ _ (pv 2) pa_nil rfl)) (@pa_cons _ _ _ _ _ (@pe_tup _ _ _ _ _ (@pa_cons _ _ _ _ _ (pv 4) pa_nil rfl)) (@pa_cons _ _ _ _ _ (@pe_tup _ _ _ _ _ (@pa_cons _ _ _ _ _ (pv 3) pa_nil rfl)) (@pa_cons _ _ _ _ _ (@pe_tup _ _ _ _ _ (@pa_cons _ _ _ _ _ (pv 3) (@pa_cons _ _ _ _ _ pe_str (@pa_cons _ _ _ _ _ pe_str pa_nil rfl) rfl) rfl)) (@pa_cons _ _ _ _ _ (@pe_tup _ _ _ _ _ (@pa_cons _ _ _ _ _ (pv 3) pa_nil rfl)) (@pa_cons _ _ _ _ _ (@pe_tup _ _ _ _ _ (@pa_cons _ _ _ _ _ (pv 2) pa_nil rfl)) (@pa_cons _ _ _ _ _ (@pe_tup _ _ _ _ _ pa_nil) (@pa_cons _ _ _ _ _ (@pe_tup _ _ _ _ _ pa_nil) pa_nil rfl) rfl) rfl) rfl) rfl) rfl) rfl) rfl) rfl) rfl)) rfl (by first | exact .inl rfl | exact .inr rfl)) (@pss_cons _ _ _ _ _ (@ps_for _ _ _ _ _ _ _ _ PassesOwn.never rfl (@pi_range1 _ _ _ _ _ _ rfl m.range (@pa_cons _ _ _ _ _ pe_int pa_nil rfl) (by first | rfl | decide | (intro _; rfl) | exact .inl rfl | exact .inr rfl | assumption)) (@pg_nameI _ 6 _ _ sc_law.nd rfl (Or.inl rfl) (by first | exact .inl rfl | exact .inr rfl)) (@pss_cons _ _ _ _ _ (@ps_setI _ 7 _ _ _ _ _ sc_law.nd rfl (by first | exact Or.inl rfl | exact Or.inr rfl) (@pe_callF _ _ _ _ _ _ _ _ _ _ g_law_raised (hr.mono (by omega)) rfl (@pa_cons _ _ _ _ _ (pv 6) (@pa_cons _ _ _ _ _ (pv 2) (@pa_cons _ _ _ _ _ (pv 3) (@pa_cons _ _ _ _ _ (pv 4) pa_nil rfl) rfl) rfl) rfl) (by decide) rfl rfl) rfl (by first | exact .inl rfl | exact .inr rfl)) (@pss_cons _ _ _ _ _ (@ps_if _ _ _ _ _ _ _ _ (@PW.pt _ _ _ (@pw_or _ _ _ _ _ _ _ (@pt_not _ _ _ _ (@pt_val _ _ _ (@pe_callB _ _ _ _ _ _ _ _ _ call_isiXB rfl m.isinstance b_isinstance (@pa_cons _ _ _ _ _ (pv 7) (@pa_cons _ _ _ _ _ (@pe_bltnT _ _ _ _ rfl m.ValueError b_ValueError (by decide) (by decide)) pa_nil rfl) rfl) (by decide) (by decide) rfl rfl) (by intro _; rfl))) (@pw_or1 _ _ _ _ (@pt_cmpR _ _ _ _ _ _ _ _ op_neD (@pe_callF _ _ _ _ _ _ _ _ _ _ g_law_fields (hr.mono (by omega)) rfl (@pa_cons _ _ _ _ _ (pv 7) pa_nil rfl) (by decide) rfl rfl) (@pe_ix _ _ _ _ _ _ _ ix_list (pv 5) (pv 6) (fun _ _ =>  rfl)) (nomark _))))) (@pss_one _ _ _ (@ps_ret _ _ _ _ pe_bl)) pss_nil) (@pss_cons _ _ _ _ _ (@ps_setI _ 8 _ _ _ _ _ sc_law.nd rfl (by first | exact Or.inl rfl | exact Or.inr rfl) (@pe_callF _ _ _ _ _ _ _ _ _ _ g_law_sorts (hr.mono (by omega)) rfl (@pa_cons _ _ _ _ _ (pv 7) pa_nil rfl) (by decide) rfl rfl) rfl (by first | exact .inl rfl | exact .inr rfl)) (@pss_one _ _ _ (@ps_if _ _ _ _ _ _ _ _ (@PW.pt _ _ _ (@pw_or _ _ _ _ _ _ _ (@pt_not _ _ _ _ (@pt_val _ _ _ (@pe_ix _ _ _ _ _ _ _ ix_list (pv 8) (pv 6) (fun _ _ =>  rfl)) (by intro _; rfl))) (@pw_or1 _ _ _ _ (@pt_cmpR _ _ _ _ _ _ _ _ op_ne (@pe_bm _ _ _ _ _ _ _ _ _ _ _ _ PySem.F.plainAttrs_list PySem.F.slot_list_count PySem.F.type_list_count mt_countB (pv 8) (@pa_cons _ _ _ _ _ pe_bl pa_nil rfl) (by first | rfl | decide | (intro _; rfl) | exact .inl rfl | exact .inr rfl | assumption) (by first | rfl | decide | (intro _; rfl) | exact .inl rfl | exact .inr rfl | assumption) (by first | rfl | decide | (intro _; rfl) | exact .inl rfl | exact .inr rfl | assumption) (by first | rfl | decide | (intro _; rfl) | exact .inl rfl | exact .inr rfl | assumption) (by first | rfl | decide | (intro _; rfl) | exact .inl rfl | exact .inr rfl | assumption)) pe_int (nomark _))))) (@pss_one _ _ _ (@ps_ret _ _ _ _ pe_bl)) pss_nil))))) (by first | rfl | decide | (intro _; rfl) | exact .inl rfl | exact .inr rfl | assumption)) (@pss_one _ _ _ (@ps_ret _ _ _ _ pe_bl)))), ?_⟩
    intro n ws r j pv o1 H9 hr4 hj hp
    have nlp := noL_pD r hr4 j hj
    refine ⟨_, rfl, (by show 1 ≤ sizeLine; decide), fun y0 z0 => ⟨_, rfl, (by show 1 ≤ sizeLine; decide), fun y1 z1 => ⟨_, rfl, (by show 1 ≤ sizeLine; decide), fun y2 z2 => ⟨_, rfl, (by show 1 ≤ sizeLine; decide), fun y3 z3 => ⟨_, rfl, (by show 1 ≤ sizeLine; decide), fun y4 z4 => ⟨_, rfl, (by show 3 ≤ sizeLine; decide), fun y5 z5 => ⟨_, rfl, (by show 1 ≤ sizeLine; decide), fun y6 z6 => ⟨_, rfl, (by show 1 ≤ sizeLine; decide), fun y7 z7 => ⟨(by show 0 ≤ sizeLine; decide), fun y8 z8 => ⟨(by show 0 ≤ sizeLine; decide), fun y9 z9 => ⟨(by show 10 ≤ sizeLine; decide), fun ld zl => ?_⟩⟩⟩⟩⟩⟩⟩⟩⟩⟩⟩
    have c0 := (Same.refl H9).put (H1 := H9) (o := .tup [.int n]) z0
    have v0 : (upd H9 y0 (.tup [.int n])) y0 = some (.tup [.int n]) := upd_same
    generalize (upd H9 y0 (.tup [.int n])) = G0 at c0 v0 z1 z2 z3 z4 z5 z6 z7 z8 z9 zl ⊢
    have c1 := (Same.refl G0).put (H1 := G0) (o := .tup [.int n]) z1
    have v1 : (upd G0 y1 (.tup [.int n])) y1 = some (.tup [.int n]) := upd_same
    generalize (upd G0 y1 (.tup [.int n])) = G1 at c1 v1 z2 z3 z4 z5 z6 z7 z8 z9 zl ⊢
    have c2 := (Same.refl G1).put (H1 := G1) (o := .tup [.int n]) z2
    have v2 : (upd G1 y2 (.tup [.int n])) y2 = some (.tup [.int n]) := upd_same
    generalize (upd G1 y2 (.tup [.int n])) = G2 at c2 v2 z3 z4 z5 z6 z7 z8 z9 zl ⊢
    have c3 := (Same.refl G2).put (H1 := G2) (o := .tup [pv]) z3
    have v3 : (upd G2 y3 (.tup [pv])) y3 = some (.tup [pv]) := upd_same
    generalize (upd G2 y3 (.tup [pv])) = G3 at c3 v3 z4 z5 z6 z7 z8 z9 zl ⊢
    have c4 := (Same.refl G3).put (H1 := G3) (o := .tup [.str ws]) z4
    have v4 : (upd G3 y4 (.tup [.str ws])) y4 = some (.tup [.str ws]) := upd_same
    generalize (upd G3 y4 (.tup [.str ws])) = G4 at c4 v4 z5 z6 z7 z8 z9 zl ⊢
    have c5 := (Same.refl G4).put (H1 := G4) (o := .tup [.str ws, .str "b", .str "read"]) z5
    have v5 : (upd G4 y5 (.tup [.str ws, .str "b", .str "read"])) y5 = some (.tup [.str ws, .str "b", .str "read"]) := upd_same
    generalize (upd G4 y5 (.tup [.str ws, .str "b", .str "read"])) = G5 at c5 v5 z6 z7 z8 z9 zl ⊢
    have c6 := (Same.refl G5).put (H1 := G5) (o := .tup [.str ws]) z6
    have v6 : (upd G5 y6 (.tup [.str ws])) y6 = some (.tup [.str ws]) := upd_same
    generalize (upd G5 y6 (.tup [.str ws])) = G6 at c6 v6 z7 z8 z9 zl ⊢
    have c7 := (Same.refl G6).put (H1 := G6) (o := .tup [.int n]) z7
    have v7 : (upd G6 y7 (.tup [.int n])) y7 = some (.tup [.int n]) := upd_same
    generalize (upd G6 y7 (.tup [.int n])) = G7 at c7 v7 z8 z9 zl ⊢
    have c8 := (Same.refl G7).put (H1 := G7) (o := .tup []) z8
    have v8 : (upd G7 y8 (.tup [])) y8 = some (.tup []) := upd_same
    generalize (upd G7 y8 (.tup [])) = G8 at c8 v8 z9 zl ⊢
    have c9 := (Same.refl G8).put (H1 := G8) (o := .tup []) z9
    have v9 : (upd G8 y9 (.tup [])) y9 = some (.tup []) := upd_same
    generalize (upd G8 y9 (.tup [])) = G9 at c9 v9  zl ⊢
    have cl := (Same.refl G9).put (H1 := G9) (o := .lst [.ref y0, .ref y1, .ref y2, .ref y3, .ref y4, .ref y5, .ref y6, .ref y7, .ref y8, .ref y9]) zl
    have vl : (upd G9 ld (.lst [.ref y0, .ref y1, .ref y2, .ref y3, .ref y4, .ref y5, .ref y6, .ref y7, .ref y8, .ref y9])) ld = some (.lst [.ref y0, .ref y1, .ref y2, .ref y3, .ref y4, .ref y5, .ref y6, .ref y7, .ref y8, .ref y9]) := upd_same
    generalize (upd G9 ld (.lst [.ref y0, .ref y1, .ref y2, .ref y3, .ref y4, .ref y5, .ref y6, .ref y7, .ref y8, .ref y9])) = H0 at cl vl ⊢
    have w0 := cl _ _ (c9 _ _ (c8 _ _ (c7 _ _ (c6 _ _ (c5 _ _ (c4 _ _ (c3 _ _ (c2 _ _ (c1 _ _ v0)))))))))
    have w1 := cl _ _ (c9 _ _ (c8 _ _ (c7 _ _ (c6 _ _ (c5 _ _ (c4 _ _ (c3 _ _ (c2 _ _ v1))))))))
    have w2 := cl _ _ (c9 _ _ (c8 _ _ (c7 _ _ (c6 _ _ (c5 _ _ (c4 _ _ (c3 _ _ v2)))))))
    have w3 := cl _ _ (c9 _ _ (c8 _ _ (c7 _ _ (c6 _ _ (c5 _ _ (c4 _ _ v3))))))
    have w4 := cl _ _ (c9 _ _ (c8 _ _ (c7 _ _ (c6 _ _ (c5 _ _ v4)))))
    have w5 := cl _ _ (c9 _ _ (c8 _ _ (c7 _ _ (c6 _ _ v5))))
    have w6 := cl _ _ (c9 _ _ (c8 _ _ (c7 _ _ v6)))
    have w7 := cl _ _ (c9 _ _ (c8 _ _ v7))
    have w8 := cl _ _ (c9 _ _ v8)
    have w9 := cl _ _ v9
    have cA := (((((((((c0.trans c1).trans c2).trans c3).trans c4).trans c5).trans c6).trans c7).trans c8).trans c9).trans cl
    have hp0 := IsD.up cA.up _ _ nlp hp
    have due : ∀ k : Nat, k < 10 → ∃ y, atI [V.ref y0, .ref y1, .ref y2, .ref y3, .ref y4, .ref y5, .ref y6, .ref y7, .ref y8, .ref y9] (k : Int) = some (.ref y) ∧ H0 y = some (.tup ((fl (.int n) (.str ws) pv k).map (·.2))) := fun k hk => by
      match k, hk with
      | 0, _ => exact ⟨y0, rfl, w0⟩
      | 1, _ => exact ⟨y1, rfl, w1⟩
      | 2, _ => exact ⟨y2, rfl, w2⟩
      | 3, _ => exact ⟨y3, rfl, w3⟩
      | 4, _ => exact ⟨y4, rfl, w4⟩
      | 5, _ => exact ⟨y5, rfl, w5⟩
      | 6, _ => exact ⟨y6, rfl, w6⟩
      | 7, _ => exact ⟨y7, rfl, w7⟩
      | 8, _ => exact ⟨y8, rfl, w8⟩
      | 9, _ => exact ⟨y9, rfl, w9⟩
    refine ⟨10, rfl, by decide, by decide, for_range (n := 10) (fun i σ H1 => ∃ o1 o6 o7 o8, σ = [some (.ref a), o1, some (.int n), some (.str ws), some pv, some (.ref ld), o6, o7, o8] ∧ Same H0 H1) ⟨_, _, _, _, rfl, Same.refl H0⟩ ?_ ?_⟩
    · rintro i σ H1 hi ⟨o1, o6, o7, o8, rfl, sA⟩
      have ei : (0 : Int) + (i : Int) = (i : Int) := by omega
      rw [ei]
      obtain ⟨y, hy, hyt⟩ := due i hi
      refine ⟨_, rfl, _, rfl, _, rfl, _, rfl, .int n, .str ws, pv, i, rfl, hi, fun e HB e0 sB xB => ?_⟩
      have sAB := sA.trans sB
      refine ⟨_, rfl, e, c i, "ValueError", _, rfl, xB.isX, E.xc i hi, E.ve i hi, _, rfl, iteF ?_⟩
      refine ⟨_, rfl, e, .int n, .str ws, pv, i, rfl, hi, xB, fun t HC t0 sC tC => ?_⟩
      have sAC := sAB.trans sC
      have hpC := IsD.up sAC.up _ _ nlp hp0
      refine ⟨_, rfl, _, rfl, ld, _, _, _, rfl, rfl, SqL.of (sAC _ _ vl), hy, .tup (dl n ws (pD r j) i), .tup (dl n ws (pD r j) i), ⟨t, _, rfl, SqT.of tC, are_fl hpC i⟩, ⟨y, _, rfl, SqT.of (sAC _ _ hyt), are_fl hpC i⟩, ?_, _, rfl, iteN (by rw [eqD_refl]; rfl) ?_⟩
      · have := dp_dl (n := n) (w := ws) hr4 hj i
        have hu : (A.deeper (envOfC "law" (defScope s_law) s.heap.objs.size f cdv)).units + 64 < cLine := hr.units
        show (A.deeper (envOfC "law" (defScope s_law) s.heap.objs.size f cdv)).units + (dpDs (dl n ws (pD r j) i) + 1) < cLine
        omega
      refine ⟨_, rfl, e, .int n, .str ws, pv, i, rfl, hi, xB.same sC, fun b HD b0 sD bD => ?_⟩
      have hat : atI ((sorts i).map V.bl) (i : Int) = some (.bl true) := atI_nat (by rw [List.getElem?_map, sorts_at i hi]; rfl)
      refine ⟨_, rfl, _, rfl, b, _, _, _, rfl, rfl, SqL.of bD, hat, _, rfl, iteF ?_⟩
      refine ⟨_, rfl, .inl ⟨rfl, _, SqL.of bD⟩, b, sorts i, true, rfl, rfl, bD, rfl, _, rfl, iteN (by rw [sorts_one i hi]; decide) ?_⟩
      exact ⟨_, _, _, _, rfl, sAC.trans sD⟩
    · rintro σ H1 ⟨o1, o6, o7, o8, rfl, sA⟩
      exact q _
  refine ⟨_, (@pss_cons _ _ _ _ _ (@ps_setI _ 1 _ _ _ _ _ sc_law.nd rfl (by first | exact Or.inl rfl | exact Or.inr rfl) (@pe_callF _ _ _ _ _ _ _ _ _ _ g_law_tape (hr.mono (by omega)) rfl (@pa_cons _ _ _ _ _ (pv 0) pa_nil rfl) (by decide) rfl rfl) rfl (by first | exact .inl rfl | exact .inr rfl)) (@pss_cons _ _ _ _ _ (@ps_setI _ 2 _ _ _ _ _ sc_law.nd rfl (by first | exact Or.inl rfl | exact Or.inr rfl) (@pe_callF _ _ _ _ _ _ _ _ _ _ g_law_next (hr.mono (by omega)) rfl (@pa_cons _ _ _ _ _ (pv 1) (@pa_cons _ _ _ _ _ pe_int pa_nil rfl) rfl) (by decide) rfl rfl) rfl (by first | exact .inl rfl | exact .inr rfl)) (@pss_cons _ _ _ _ _ (@ps_setI _ 3 _ _ _ _ _ sc_law.nd rfl (by first | exact Or.inl rfl | exact Or.inr rfl) (@pe_ix _ _ _ _ _ _ _ ix_list (@pe_lst _ _ _ _ (@pa_cons _ _ _ _ _ pe_str (@pa_cons _ _ _ _ _ pe_str (@pa_cons _ _ _ _ _ pe_str (@pa_cons _ _ _ _ _ pe_str pa_nil rfl) rfl) rfl) rfl)) (@pe_callF _ _ _ _ _ _ _ _ _ _ g_law_next (hr.mono (by omega)) rfl (@pa_cons _ _ _ _ _ (pv 1) (@pa_cons _ _ _ _ _ pe_int pa_nil rfl) rfl) (by decide) rfl rfl) (fun _ _ =>  rfl)) rfl (by first | exact .inl rfl | exact .inr rfl)) (@pss_cons _ _ _ _ _ (@ps_setI _ 4 _ _ _ _ _ sc_law.nd rfl (by first | exact Or.inl rfl | exact Or.inr rfl) (@pe_op _ _ _ _ _ _ _ _ op_repT (@pe_tup _ _ _ _ _ (@pa_cons _ _ _ _ _ (@pe_ix _ _ _ _ _ _ _ ix_tup (@pe_tup _ _ _ _ _ (@pa_cons _ _ _ _ _ (@pe_tup _ _ _ _ _ (@pa_cons _ _ _ _ _ pe_str (@pa_cons _ _ _ _ _ pe_int pa_nil rfl) rfl)) (@pa_cons _ _ _ _ _ (@pe_tup _ _ _ _ _ (@pa_cons _ _ _ _ _ pe_str (@pa_cons _ _ _ _ _ pe_str pa_nil rfl) rfl)) (@pa_cons _ _ _ _ _ (@pe_tup _ _ _ _ _ (@pa_cons _ _ _ _ _ pe_str (@pa_cons _ _ _ _ _ pe_int pa_nil rfl) rfl)) (@pa_cons _ _ _ _ _ (@pe_tup _ _ _ _ _ (@pa_cons _ _ _ _ _ pe_str (@pa_cons _ _ _ _ _ pe_int pa_nil rfl) rfl)) pa_nil rfl) rfl) rfl) rfl)) (@pe_callF _ _ _ _ _ _ _ _ _ _ g_law_next (hr.mono (by omega)) rfl (@pa_cons _ _ _ _ _ (pv 1) (@pa_cons _ _ _ _ _ pe_int pa_nil rfl) rfl) (by decide) rfl rfl) (fun _ _ =>  rfl)) pa_nil rfl)) (@pe_callF _ _ _ _ _ _ _ _ _ _ g_law_next (hr.mono (by omega)) rfl (@pa_cons _ _ _ _ _ (pv 1) (@pa_cons _ _ _ _ _ pe_int pa_nil rfl) rfl) (by decide) rfl rfl)) rfl (by first | exact .inl rfl | exact .inr rfl)) hT)))), ?_⟩
  refine ⟨_, rfl, a, ns, rfl, hS, h63, fun l H1 hl s1 t1 => ?_⟩
  refine ⟨_, rfl, l, a, ns, 4000, rfl, t1, by decide, by decide, fun n H2 n0 n1 k2 t2 => ?_⟩
  refine ⟨(by show 4 ≤ sizeLine; decide), fun p3 h3 => ?_⟩
  have s3 := (Same.refl H2).put (H1 := H2) (o := .lst [.str "form", .str "shut", .str "a", .str "move"]) h3
  have n3 := t2.ne h3
  have e3 : upd H2 p3 (.lst [.str "form", .str "shut", .str "a", .str "move"]) p3 = some (.lst [.str "form", .str "shut", .str "a", .str "move"]) := upd_same
  have t3 := t2.same s3
  generalize upd H2 p3 (.lst [.str "form", .str "shut", .str "a", .str "move"]) = H3 at s3 e3 t3 ⊢
  refine ⟨_, rfl, l, a, ns, 4, rfl, t3, by decide, by decide, fun r4 H4 a4 b4 k4 t4 => ?_⟩
  obtain ⟨wv, ew, hw⟩ := atI4 (a := V.str "form") (b := V.str "shut") (c := V.str "a") (d := V.str "move") a4 b4
  obtain ⟨ws, rfl⟩ : ∃ ws : Str, wv = .str ws := by
    rcases hw with ⟨_, e⟩ | ⟨_, e⟩ | ⟨_, e⟩ | ⟨_, e⟩ <;> exact ⟨_, e⟩
  refine ⟨p3, _, _, _, rfl, rfl, SqL.of (k4 _ _ n3 e3), ew, ?_⟩
  -- the path
  refine ⟨(by show 2 ≤ sizeLine; decide), fun q0 g0 => ⟨(by show 2 ≤ sizeLine; decide), fun q1 g1 => ⟨(by show 2 ≤ sizeLine; decide), fun q2 g2 => ⟨(by show 2 ≤ sizeLine; decide), fun q3 g3 => ⟨(by show 4 ≤ sizeLine; decide), fun q4 g4 => ?_⟩⟩⟩⟩⟩
  have d0 : H4 q1 = none := (Same.put (Same.refl H4) g0).free g1
  have d1 := (Same.refl H4).put (H1 := H4) (o := .tup [.str "at", .int 2]) g0
  have d2 := (Same.refl _).put (H1 := upd H4 q0 (.tup [.str "at", .int 2])) (o := .tup [.str "key", .str "a"]) g1
  have d3 := (Same.refl _).put (H1 := upd (upd H4 q0 (.tup [.str "at", .int 2])) q1 (.tup [.str "key", .str "a"])) (o := .tup [.str "field", .int 9]) g2
  have d4 := (Same.refl _).put (H1 := upd (upd (upd H4 q0 (.tup [.str "at", .int 2])) q1 (.tup [.str "key", .str "a"])) q2 (.tup [.str "field", .int 9])) (o := .tup [.str "arm", .int 1]) g3
  have d5 := (Same.refl _).put (H1 := upd (upd (upd (upd H4 q0 (.tup [.str "at", .int 2])) q1 (.tup [.str "key", .str "a"])) q2 (.tup [.str "field", .int 9])) q3 (.tup [.str "arm", .int 1])) (o := .tup [.ref q0, .ref q1, .ref q2, .ref q3]) g4
  have f0 := d5 _ _ (d4 _ _ (d3 _ _ (d2 _ _ (upd_same (H := H4) (a := q0) (o := .tup [.str "at", .int 2])))))
  have f1 := d5 _ _ (d4 _ _ (d3 _ _ (upd_same (H := upd H4 q0 (.tup [.str "at", .int 2])) (a := q1) (o := .tup [.str "key", .str "a"]))))
  have f2 := d5 _ _ (d4 _ _ (upd_same (H := upd (upd H4 q0 (.tup [.str "at", .int 2])) q1 (.tup [.str "key", .str "a"])) (a := q2) (o := .tup [.str "field", .int 9])))
  have f3 := d5 _ _ (upd_same (H := upd (upd (upd H4 q0 (.tup [.str "at", .int 2])) q1 (.tup [.str "key", .str "a"])) q2 (.tup [.str "field", .int 9])) (a := q3) (o := .tup [.str "arm", .int 1]))
  have f4 : _ = some _ := upd_same (H := upd (upd (upd (upd H4 q0 (.tup [.str "at", .int 2])) q1 (.tup [.str "key", .str "a"])) q2 (.tup [.str "field", .int 9])) q3 (.tup [.str "arm", .int 1])) (a := q4) (o := .tup [.ref q0, .ref q1, .ref q2, .ref q3])
  have t5 := t4.same (((d1.trans d2).trans d3).trans (d4.trans d5))
  clear d0 d1 d2 d3 d4 d5 g0 g1 g2 g3 g4
  generalize upd (upd (upd (upd (upd H4 q0 (.tup [.str "at", .int 2])) q1 (.tup [.str "key", .str "a"])) q2 (.tup [.str "field", .int 9])) q3 (.tup [.str "arm", .int 1])) q4 (.tup [.ref q0, .ref q1, .ref q2, .ref q3]) = H5 at f0 f1 f2 f3 f4 t5 ⊢
  refine ⟨_, rfl, l, a, ns, 4, rfl, t5, by decide, by decide, fun r6 H6 a6 b6 k6 t6 => ?_⟩
  obtain ⟨ev, ee, he⟩ := atI4 (a := V.ref q0) (b := V.ref q1) (c := V.ref q2) (d := V.ref q3) a6 b6
  have hel : ∃ (r : Nat), r < 4 ∧ IsD K H6 (el r) ev := by
    have u := k6.up t5
    rcases he with ⟨_, e⟩ | ⟨_, e⟩ | ⟨_, e⟩ | ⟨_, e⟩
    · exact ⟨0, by decide, by rw [e]; exact IsD.up u _ _ rfl (is_el (r := 0) f0 rfl)⟩
    · exact ⟨1, by decide, by rw [e]; exact IsD.up u _ _ rfl (is_el (r := 1) f1 rfl)⟩
    · exact ⟨2, by decide, by rw [e]; exact IsD.up u _ _ rfl (is_el (r := 2) f2 rfl)⟩
    · exact ⟨3, by decide, by rw [e]; exact IsD.up u _ _ rfl (is_el (r := 3) f3 rfl)⟩
  obtain ⟨r, hr4, hel⟩ := hel
  refine ⟨q4, _, _, _, rfl, rfl, SqT.of (k6 _ _ (t5.net f4) f4), ee, (by show 1 ≤ sizeLine; decide), fun q5 g5 => ?_⟩
  have s7 := (Same.refl H6).put (H1 := H6) (o := .tup [ev]) g5
  have e7 : upd H6 q5 (.tup [ev]) q5 = some (.tup [ev]) := upd_same
  have t7 := t6.same s7
  have hel7 := IsD.up s7.up _ _ (noL_el r) hel
  generalize upd H6 q5 (.tup [ev]) = H7 at s7 e7 t7 hel7 ⊢
  refine ⟨_, rfl, l, a, ns, 3, rfl, t7, by decide, by decide, fun r8 H8 a8 b8 k8 t8 => ?_⟩
  have hel8 := IsD.up (k8.up t7) _ _ (noL_el r) hel7
  have e8 := k8 _ _ (t7.net e7) e7
  refine ⟨q5, r8, ev, rfl, rfl, e8, ?_⟩
  rcases (by omega : r8 = 1 ∨ r8 = 0 ∨ r8 = 2) with e | e | e
  · exact .inl ⟨e, tail n ws r 1 _ _ _ hr4 (by decide) ⟨q5, _, rfl, SqT.of e8, AreD.one hel8⟩⟩
  · exact .inr (.inl ⟨e, fun q6 g6 => tail n ws r 0 _ _ _ hr4 (by decide) ⟨q6, _, rfl, SqT.of upd_same, rfl⟩⟩)
  · refine .inr (.inr ⟨e, fun q6 g6 => tail n ws r 2 _ _ _ hr4 (by decide) ⟨q6, _, rfl, SqT.of upd_same, ?_⟩⟩)
    have z := IsD.up (up_put (o := .tup [ev, ev]) g6) _ _ (noL_el r) hel8
    exact AreD.two z z
end
end K97
namespace K97
open PySem PySem.Spec PyProof.Rows L2
/-- all that is asked of a class's text -/
def xOk (K : PySem.W.Frag) (C : Addr) (pre : List Value) : Bool :=
  PySem.W.findIn K (.ref C) "__setattr__" == some (some (.builtin "object.__setattr__")) && (PySem.W.findIn K (.ref C) "__getattribute__" == some (some (.builtin "BaseException.__getattribute__")) &&
  (PySem.W.findIn K (.ref C) "__getattr__" == some none && (PySem.W.findIn K (.ref C) "__class__" == some (some (.builtin "object.__class__")) && (PySem.W.hasDictIn K C && (PySem.W.typeIn K (.ref C) == some (.type "type") &&
  (((PySem.W.clsIn K C).any fun cd => cd.mro == pre ++ veMro) && (PySem.W.specialIn K (.builtin "object.__class__") "__get__" == some (some (.builtin "getset_descriptor.__get__")) &&
  (PySem.W.takesIn K (.builtin "object.__class__") == some true && (allF.all (fun f => PySem.W.findIn K (.ref C) f == some none) && (xIn K C && PySem.W.keepIn K (.ref C)))))))))))
theorem only_ve : ∀ (as : List Addr), onlyVE (as.map Value.ref ++ veMro) = true
  | [] => by decide +kernel
  | a :: as => only_ve as
structure XOk (K : PySem.W.Frag) (C : Addr) (as : List Addr) : Prop where
  xc : XCls K C
  mro : ∀ b, PySem.W.mroIn K C b = some ((as.map Value.ref ++ veMro).contains b)
  here : (PySem.W.clsIn K C).isSome = true
  no : ∀ f ∈ allF, NoAttr K C f
  made : xIn K C = true
  kp : PySem.W.keepIn K (.ref C) = true
theorem xok_of {K : PySem.W.Frag} {C : Addr} {a : Addr} {as : List Addr} (h : xOk K C ((a :: as).map Value.ref) = true) : XOk K C (a :: as) := by
  unfold xOk at h
  simp only [Bool.and_eq_true, beq_iff_eq, List.all_eq_true] at h
  obtain ⟨h1, h2, h3, h4, h5, h6, h7, h8, h9, h10, h11, h12⟩ := h
  obtain ⟨cd, hc, hm⟩ := PySem.W.any_some h7
  have hm : cd.mro = (a :: as).map Value.ref ++ veMro := beq_iff_eq.mp hm
  have mro : ∀ b, PySem.W.mroIn K C b = some (((a :: as).map Value.ref ++ veMro).contains b) := fun b => by
    unfold PySem.W.mroIn
    rw [hc, Option.bind_some, hm]
    rfl
  have inVE : ∀ b, veMro.contains b = true → (((a :: as).map Value.ref ++ veMro).contains b) = true := fun b hb => by
    rw [List.contains_iff_mem] at hb ⊢
    exact List.mem_append_right _ hb
  refine ⟨⟨h1, h2, h3, h4, ?_, ?_, h5, h6, ?_, h8, h9⟩, mro, by rw [hc]; rfl, h10, h11, h12⟩
  · rw [mro, inVE _ (by decide +kernel)]
  · rw [mro, inVE _ (by decide +kernel)]
  · rw [hc]
    show onlyVE cd.mro = true
    rw [hm]; exact only_ve _
theorem XOk.kit {K : PySem.W.Frag} {C D M : Addr} (x : XOk K C [C, M]) (y : XOk K D [D, M]) (hm : D ≠ M) : PySem.W.kitOne K (.ref C) (.ref D) = some (decide (C = D)) := by
  unfold PySem.W.kitOne
  by_cases e : C = D
  · subst e
    rw [if_pos (beq_self_eq_true _), decide_eq_true rfl]
  · have n : ¬ ((Value.ref C == Value.ref D) = true) := fun z => e (Value.ref.inj (beq_iff_eq.mp z))
    rw [if_neg n, decide_eq_false e]
    unfold PySem.W.kitCls
    dsimp only
    rw [if_pos (by rw [y.here, y.xc.ty]; rfl)]
    show PySem.W.mroIn K C (.ref D) = some false
    rw [x.mro]
    congr 1
    rw [Bool.eq_false_iff]
    intro z
    rw [List.contains_iff_mem] at z
    rcases List.mem_append.mp z with z | z
    · simp only [List.map_cons, List.map_nil, List.mem_cons, List.not_mem_nil, or_false, Value.ref.injEq] at z
      rcases z with z | z
      · exact e z.symm
      · exact hm z
    · simp [veMro] at z
theorem XOk.ve {K : PySem.W.Frag} {C M : Addr} (x : XOk K C [C, M]) : PySem.W.kitOne K (.ref C) (.type "ValueError") = some true := by
  unfold PySem.W.kitOne
  rw [if_neg (by simp)]
  unfold PySem.W.kitCls
  dsimp only
  rw [if_pos (by decide +kernel)]
  show PySem.W.mroIn K C (.type "ValueError") = some true
  rw [x.mro]
  exact congrArg some (List.contains_iff_mem.mpr (List.mem_append_right _ (by decide +kernel)))
theorem XOk.up {K : PySem.W.Frag} {C M : Addr} (x : XOk K C [C, M]) : PySem.W.mroIn K C (.ref M) = some true := by
  rw [x.mro]
  congr 1
  rw [List.contains_iff_mem]
  simp
def pick (cs : List Addr) (k : Nat) : Addr := cs.getD k 0
/-- the ten as one check -/
def xAll (K : PySem.W.Frag) (M : Addr) (cs : List Addr) : Bool := xOk K M [.ref M] && (cs.all (fun C => xOk K C [.ref C, .ref M]) && (decide cs.Nodup && decide (M ∉ cs)))
structure XAll (K : PySem.W.Frag) (M : Addr) (cs : List Addr) : Prop where
  m : XOk K M [M]
  all : ∀ C ∈ cs, XOk K C [C, M]
  nd : cs.Nodup
  nm : M ∉ cs
theorem xall_of {K : PySem.W.Frag} {M : Addr} {cs : List Addr} (h : xAll K M cs = true) : XAll K M cs := by
  unfold xAll at h
  simp only [Bool.and_eq_true, List.all_eq_true, decide_eq_true_eq] at h
  obtain ⟨h1, h2, h3, h4⟩ := h
  exact ⟨xok_of h1, fun C hC => xok_of (h2 C hC), h3, h4⟩
theorem pick_mem {cs : List Addr} {k : Nat} (h : k < cs.length) : pick cs k ∈ cs := by
  unfold pick
  rw [List.getD_eq_getElem?_getD, List.getElem?_eq_getElem h]
  exact List.getElem_mem h
theorem pick_inj {cs : List Addr} (nd : cs.Nodup) {j k : Nat} (hj : j < cs.length) (hk : k < cs.length) : (pick cs j = pick cs k) = (j = k) := by
  unfold pick
  rw [List.getD_eq_getElem?_getD, List.getD_eq_getElem?_getD, List.getElem?_eq_getElem hj, List.getElem?_eq_getElem hk]
  exact propext ⟨fun e => (List.getElem_inj nd).mp e, fun e => by subst e; rfl⟩
theorem all_mk {l : PySem.W.OpenLaw} {w : World} {K : PySem.W.Frag} {h : Heap} {mg : Str → Option Value} {fa f1 f2 f3 f4 f5 f6 M C0 C1 C2 C3 C4 C5 C6 C7 C8 C9 g0 g1 g2 g3 g4 g5 g6 g7 : Addr} (X : K.In h) (G : h.Ns mainGlobals mg) (hfa : mg "law" = some (.ref fa))
    {od1 an1 od2 an2 od3 an3 od4 an4 od5 an5 od6 an6 oj0 aj0 oj1 aj1 oj2 aj2 oj3 aj3 oj4 aj4 oj5 aj5 oj6 aj6 oj7 aj7 : Option Addr} {sl1 sl2 sl3 sl4 sl5 sl6 sj0 sj1 sj2 sj3 sj4 sj5 sj6 sj7 : Array (Option Value)} {oc1 kV1 dc1 pm1 cd1 ct1 oc2 kV2 dc2 pm2 cd2 ct2 oc3 kV3 dc3 pm3 cd3 ct3 oc4 kV4 dc4 pm4 cd4 ct4 oc5 kV5 dc5 pm5 cd5 ct5 oc6 kV6 dc6 pm6 cd6 ct6 cj0 kj0 dj0 pj0 ej0 tj0 cj1 kj1 dj1 pj1 ej1 tj1 cj2 kj2 dj2 pj2 ej2 tj2 cj3 kj3 dj3 pj3 ej3 tj3 cj4 kj4 dj4 pj4 ej4 tj4 cj5 kj5 dj5 pj5 ej5 tj5 cj6 kj6 dj6 pj6 ej6 tj6 cj7 kj7 dj7 pj7 ej7 tj7 : Value}
    (a1 : PySem.W.nsIn K mainGlobals "_law_tape" = some (some (.ref f1))) (l1 : K.lookup f1 = some ⟨oc1, od1, .func (PySem.W.fnOf "_law_tape" "_law_tape" (defArgs s_law_tape) (defBody s_law_tape) (defScope s_law_tape) .none kV1 dc1 pm1 an1 cd1 ct1), sl1⟩) (c1 : PySem.W.codeIn K cd1 "_law_tape" = true) (k1 : PySem.W.keepIn K (.ref f1) = true)
    (a2 : PySem.W.nsIn K mainGlobals "_law_next" = some (some (.ref f2))) (l2 : K.lookup f2 = some ⟨oc2, od2, .func (PySem.W.fnOf "_law_next" "_law_next" (defArgs s_law_next) (defBody s_law_next) (defScope s_law_next) .none kV2 dc2 pm2 an2 cd2 ct2), sl2⟩) (c2 : PySem.W.codeIn K cd2 "_law_next" = true) (k2 : PySem.W.keepIn K (.ref f2) = true)
    (a3 : PySem.W.nsIn K mainGlobals "_law_fields" = some (some (.ref f3))) (l3 : K.lookup f3 = some ⟨oc3, od3, .func (PySem.W.fnOf "_law_fields" "_law_fields" (defArgs s_law_fields) (defBody s_law_fields) (defScope s_law_fields) .none kV3 dc3 pm3 an3 cd3 ct3), sl3⟩) (c3 : PySem.W.codeIn K cd3 "_law_fields" = true) (k3 : PySem.W.keepIn K (.ref f3) = true)
    (a4 : PySem.W.nsIn K mainGlobals "_law_sorts" = some (some (.ref f4))) (l4 : K.lookup f4 = some ⟨oc4, od4, .func (PySem.W.fnOf "_law_sorts" "_law_sorts" (defArgs s_law_sorts) (defBody s_law_sorts) (defScope s_law_sorts) .none kV4 dc4 pm4 an4 cd4 ct4), sl4⟩) (c4 : PySem.W.codeIn K cd4 "_law_sorts" = true) (k4 : PySem.W.keepIn K (.ref f4) = true)
    (a5 : PySem.W.nsIn K mainGlobals "_law_raised" = some (some (.ref f5))) (l5 : K.lookup f5 = some ⟨oc5, od5, .func (PySem.W.fnOf "_law_raised" "_law_raised" (defArgs s_law_raised) (defBody s_law_raised) (defScope s_law_raised) .none kV5 dc5 pm5 an5 cd5 ct5), sl5⟩) (c5 : PySem.W.codeIn K cd5 "_law_raised" = true) (k5 : PySem.W.keepIn K (.ref f5) = true)
    (a6 : PySem.W.nsIn K mainGlobals "law" = some (some (.ref f6))) (l6 : K.lookup f6 = some ⟨oc6, od6, .func (PySem.W.fnOf "law" "law" (defArgs s_law) (defBody s_law) (defScope s_law) .none kV6 dc6 pm6 an6 cd6 ct6), sl6⟩) (c6 : PySem.W.codeIn K cd6 "law" = true) (k6 : PySem.W.keepIn K (.ref f6) = true)
    (aM : PySem.W.nsIn K mainGlobals "MakeError" = some (some (.ref M)))
    (aC0 : PySem.W.nsIn K mainGlobals "BadByte" = some (some (.ref C0)))
    (aC1 : PySem.W.nsIn K mainGlobals "NoPlace" = some (some (.ref C1)))
    (aC2 : PySem.W.nsIn K mainGlobals "BadText" = some (some (.ref C2)))
    (aC3 : PySem.W.nsIn K mainGlobals "BadItem" = some (some (.ref C3)))
    (aC4 : PySem.W.nsIn K mainGlobals "BadDeed" = some (some (.ref C4)))
    (aC5 : PySem.W.nsIn K mainGlobals "NoTable" = some (some (.ref C5)))
    (aC6 : PySem.W.nsIn K mainGlobals "NoMove" = some (some (.ref C6)))
    (aC7 : PySem.W.nsIn K mainGlobals "NoFile" = some (some (.ref C7)))
    (aC8 : PySem.W.nsIn K mainGlobals "NoValue" = some (some (.ref C8)))
    (aC9 : PySem.W.nsIn K mainGlobals "NoRow" = some (some (.ref C9)))
    (iC0 : PySem.W.findIn K (.ref C0) "__init__" = some (some (.ref g0))) (lJ0 : K.lookup g0 = some ⟨cj0, oj0, .func (PySem.W.fnOf "__init__" "BadByte.__init__" (defArgs s_BadByte_init) (defBody s_BadByte_init) (defScope s_BadByte_init) .none kj0 dj0 pj0 aj0 ej0 tj0), sj0⟩) (cJ0 : PySem.W.codeIn K ej0 "BadByte.__init__" = true) (kJ0 : PySem.W.keepIn K (.ref g0) = true) (fJ0 : PySem.W.isFn K (.ref g0) = true)
    (iC1 : PySem.W.findIn K (.ref C1) "__init__" = some (some (.ref g1))) (lJ1 : K.lookup g1 = some ⟨cj1, oj1, .func (PySem.W.fnOf "__init__" "NoPlace.__init__" (defArgs s_NoPlace_init) (defBody s_NoPlace_init) (defScope s_NoPlace_init) .none kj1 dj1 pj1 aj1 ej1 tj1), sj1⟩) (cJ1 : PySem.W.codeIn K ej1 "NoPlace.__init__" = true) (kJ1 : PySem.W.keepIn K (.ref g1) = true) (fJ1 : PySem.W.isFn K (.ref g1) = true)
    (iC2 : PySem.W.findIn K (.ref C2) "__init__" = some (some (.ref g2))) (lJ2 : K.lookup g2 = some ⟨cj2, oj2, .func (PySem.W.fnOf "__init__" "BadText.__init__" (defArgs s_BadText_init) (defBody s_BadText_init) (defScope s_BadText_init) .none kj2 dj2 pj2 aj2 ej2 tj2), sj2⟩) (cJ2 : PySem.W.codeIn K ej2 "BadText.__init__" = true) (kJ2 : PySem.W.keepIn K (.ref g2) = true) (fJ2 : PySem.W.isFn K (.ref g2) = true)
    (iC3 : PySem.W.findIn K (.ref C3) "__init__" = some (some (.ref g3))) (lJ3 : K.lookup g3 = some ⟨cj3, oj3, .func (PySem.W.fnOf "__init__" "BadItem.__init__" (defArgs s_BadItem_init) (defBody s_BadItem_init) (defScope s_BadItem_init) .none kj3 dj3 pj3 aj3 ej3 tj3), sj3⟩) (cJ3 : PySem.W.codeIn K ej3 "BadItem.__init__" = true) (kJ3 : PySem.W.keepIn K (.ref g3) = true) (fJ3 : PySem.W.isFn K (.ref g3) = true)
    (iC4 : PySem.W.findIn K (.ref C4) "__init__" = some (some (.ref g4))) (lJ4 : K.lookup g4 = some ⟨cj4, oj4, .func (PySem.W.fnOf "__init__" "BadDeed.__init__" (defArgs s_BadDeed_init) (defBody s_BadDeed_init) (defScope s_BadDeed_init) .none kj4 dj4 pj4 aj4 ej4 tj4), sj4⟩) (cJ4 : PySem.W.codeIn K ej4 "BadDeed.__init__" = true) (kJ4 : PySem.W.keepIn K (.ref g4) = true) (fJ4 : PySem.W.isFn K (.ref g4) = true)
    (iC5 : PySem.W.findIn K (.ref C5) "__init__" = some (some (.ref g5))) (lJ5 : K.lookup g5 = some ⟨cj5, oj5, .func (PySem.W.fnOf "__init__" "NoTable.__init__" (defArgs s_NoTable_init) (defBody s_NoTable_init) (defScope s_NoTable_init) .none kj5 dj5 pj5 aj5 ej5 tj5), sj5⟩) (cJ5 : PySem.W.codeIn K ej5 "NoTable.__init__" = true) (kJ5 : PySem.W.keepIn K (.ref g5) = true) (fJ5 : PySem.W.isFn K (.ref g5) = true)
    (iC6 : PySem.W.findIn K (.ref C6) "__init__" = some (some (.ref g6))) (lJ6 : K.lookup g6 = some ⟨cj6, oj6, .func (PySem.W.fnOf "__init__" "NoMove.__init__" (defArgs s_NoMove_init) (defBody s_NoMove_init) (defScope s_NoMove_init) .none kj6 dj6 pj6 aj6 ej6 tj6), sj6⟩) (cJ6 : PySem.W.codeIn K ej6 "NoMove.__init__" = true) (kJ6 : PySem.W.keepIn K (.ref g6) = true) (fJ6 : PySem.W.isFn K (.ref g6) = true)
    (iC7 : PySem.W.findIn K (.ref C7) "__init__" = some (some (.ref g7))) (lJ7 : K.lookup g7 = some ⟨cj7, oj7, .func (PySem.W.fnOf "__init__" "NoFile.__init__" (defArgs s_NoFile_init) (defBody s_NoFile_init) (defScope s_NoFile_init) .none kj7 dj7 pj7 aj7 ej7 tj7), sj7⟩) (cJ7 : PySem.W.codeIn K ej7 "NoFile.__init__" = true) (kJ7 : PySem.W.keepIn K (.ref g7) = true) (fJ7 : PySem.W.isFn K (.ref g7) = true)
    (iC8 : PySem.W.findIn K (.ref C8) "__init__" = some (some (.builtin "ValueError.__init__")))
    (iC9 : PySem.W.findIn K (.ref C9) "__init__" = some (some (.builtin "ValueError.__init__")))
    (xx : xAll K M [C0, C1, C2, C3, C4, C5, C6, C7, C8, C9] = true)
    (z_len : PySem.W.nsIn K mainGlobals "len" = some none) (z_max : PySem.W.nsIn K mainGlobals "max" = some none) (z_isinstance : PySem.W.nsIn K mainGlobals "isinstance" = some none) (z_ValueError : PySem.W.nsIn K mainGlobals "ValueError" = some none) (z_range : PySem.W.nsIn K mainGlobals "range" = some none) :
    ∃ fd : FuncData, (∀ (s : Shared) (v : Value), BindsTo s fd ⟨[v], []⟩ [("_law_script", v)]) ∧ ∀ base : Heap, K.In base → base.Ns mainGlobals mg → FnOk l.prog w K mg base CX0 4 fa fd ["_law_script"] (spLaw K) := by
  have e := hfa.symm.trans (PySem.W.mg_of X G a6)
  cases e
  have F_law_tape := fun_mk (st := s_law_tape) l1 c1 k1
  have b_law_tape := F_law_tape.binds (ps := ["_law_script"]) fun _ _ _ _ _ _ us hl => match us, hl with | [_], _ => rfl
  have m_law_tape := PySem.W.mg_of X G a1
  have F_law_next := fun_mk (st := s_law_next) l2 c2 k2
  have b_law_next := F_law_next.binds (ps := ["_law_tape_here", "_law_many"]) fun _ _ _ _ _ _ us hl => match us, hl with | [_, _], _ => rfl
  have m_law_next := PySem.W.mg_of X G a2
  have F_law_fields := fun_mk (st := s_law_fields) l3 c3 k3
  have b_law_fields := F_law_fields.binds (ps := ["_law_e"]) fun _ _ _ _ _ _ us hl => match us, hl with | [_], _ => rfl
  have m_law_fields := PySem.W.mg_of X G a3
  have F_law_sorts := fun_mk (st := s_law_sorts) l4 c4 k4
  have b_law_sorts := F_law_sorts.binds (ps := ["_law_e"]) fun _ _ _ _ _ _ us hl => match us, hl with | [_], _ => rfl
  have m_law_sorts := PySem.W.mg_of X G a4
  have F_law_raised := fun_mk (st := s_law_raised) l5 c5 k5
  have b_law_raised := F_law_raised.binds (ps := ["_law_k", "_law_number", "_law_word", "_law_path"]) fun _ _ _ _ _ _ us hl => match us, hl with | [_, _, _, _], _ => rfl
  have m_law_raised := PySem.W.mg_of X G a5
  have F_law := fun_mk (st := s_law) l6 c6 k6
  have J_BadByte := fun_mk (st := s_BadByte_init) lJ0 cJ0 kJ0
  have bi_BadByte := J_BadByte.binds (ps := ["self", "at"]) fun _ _ _ _ _ _ us hl => match us, hl with | [_, _], _ => rfl
  have J_NoPlace := fun_mk (st := s_NoPlace_init) lJ1 cJ1 kJ1
  have bi_NoPlace := J_NoPlace.binds (ps := ["self", "step"]) fun _ _ _ _ _ _ us hl => match us, hl with | [_, _], _ => rfl
  have J_BadText := fun_mk (st := s_BadText_init) lJ2 cJ2 kJ2
  have bi_BadText := J_BadText.binds (ps := ["self", "at"]) fun _ _ _ _ _ _ us hl => match us, hl with | [_, _], _ => rfl
  have J_BadItem := fun_mk (st := s_BadItem_init) lJ3 cJ3 kJ3
  have bi_BadItem := J_BadItem.binds (ps := ["self", "path"]) fun _ _ _ _ _ _ us hl => match us, hl with | [_, _], _ => rfl
  have J_BadDeed := fun_mk (st := s_BadDeed_init) lJ4 cJ4 kJ4
  have bi_BadDeed := J_BadDeed.binds (ps := ["self", "word"]) fun _ _ _ _ _ _ us hl => match us, hl with | [_, _], _ => rfl
  have J_NoTable := fun_mk (st := s_NoTable_init) lJ5 cJ5 kJ5
  have bi_NoTable := J_NoTable.binds (ps := ["self", "one", "other", "word"]) fun _ _ _ _ _ _ us hl => match us, hl with | [_, _, _, _], _ => rfl
  have J_NoMove := fun_mk (st := s_NoMove_init) lJ6 cJ6 kJ6
  have bi_NoMove := J_NoMove.binds (ps := ["self", "word"]) fun _ _ _ _ _ _ us hl => match us, hl with | [_, _], _ => rfl
  have J_NoFile := fun_mk (st := s_NoFile_init) lJ7 cJ7 kJ7
  have bi_NoFile := J_NoFile.binds (ps := ["self", "number"]) fun _ _ _ _ _ _ us hl => match us, hl with | [_, _], _ => rfl
  have m : Bn mg := ⟨PySem.W.mg_none_of X G z_len, PySem.W.mg_none_of X G z_max, PySem.W.mg_none_of X G z_isinstance, PySem.W.mg_none_of X G z_ValueError, PySem.W.mg_none_of X G z_range⟩
  have A := xall_of xx
  have at_ : ∀ k, k < 10 → XOk K (pick [C0, C1, C2, C3, C4, C5, C6, C7, C8, C9] k) [pick [C0, C1, C2, C3, C4, C5, C6, C7, C8, C9] k, M] := fun k hk => A.all _ (pick_mem hk)
  have E : Exs K mg M (pick [C0, C1, C2, C3, C4, C5, C6, C7, C8, C9]) := ⟨A.m.xc, fun k hk => (at_ k hk).xc, fun j k hj hk => ?_, fun k hk => (at_ k hk).ve, fun k hk => (at_ k hk).up, fun k hk => (at_ k hk).no, PySem.W.mg_of X G aM, PySem.W.mg_of X G aC0, PySem.W.mg_of X G aC1, PySem.W.mg_of X G aC2, PySem.W.mg_of X G aC3, PySem.W.mg_of X G aC4, PySem.W.mg_of X G aC5, PySem.W.mg_of X G aC6, PySem.W.mg_of X G aC7, PySem.W.mg_of X G aC8, PySem.W.mg_of X G aC9⟩
  · refine ⟨PySem.W.fnOf "law" "law" (defArgs s_law) (defBody s_law) (defScope s_law) .none kV6 dc6 pm6 an6 cd6 ct6, fun s v => .of_eq rfl, fun base _ _ => ?_⟩
    have Z : Mks l.prog w K mg base (pick [C0, C1, C2, C3, C4, C5, C6, C7, C8, C9]) := ⟨⟨_, _, ⟨(at_ 0 (by decide)).made, iC0, fJ0, (at_ 0 (by decide)).kp⟩, ok_BadByte_init J_BadByte (at_ 0 (by decide)).xc (at_ 0 (by decide)).no, bi_BadByte⟩, ⟨_, _, ⟨(at_ 1 (by decide)).made, iC1, fJ1, (at_ 1 (by decide)).kp⟩, ok_NoPlace_init J_NoPlace (at_ 1 (by decide)).xc (at_ 1 (by decide)).no, bi_NoPlace⟩, ⟨_, _, ⟨(at_ 2 (by decide)).made, iC2, fJ2, (at_ 2 (by decide)).kp⟩, ok_BadText_init J_BadText (at_ 2 (by decide)).xc (at_ 2 (by decide)).no, bi_BadText⟩, ⟨_, _, ⟨(at_ 3 (by decide)).made, iC3, fJ3, (at_ 3 (by decide)).kp⟩, ok_BadItem_init J_BadItem (at_ 3 (by decide)).xc (at_ 3 (by decide)).no, bi_BadItem⟩, ⟨_, _, ⟨(at_ 4 (by decide)).made, iC4, fJ4, (at_ 4 (by decide)).kp⟩, ok_BadDeed_init J_BadDeed (at_ 4 (by decide)).xc (at_ 4 (by decide)).no, bi_BadDeed⟩, ⟨_, _, ⟨(at_ 5 (by decide)).made, iC5, fJ5, (at_ 5 (by decide)).kp⟩, ok_NoTable_init J_NoTable (at_ 5 (by decide)).xc (at_ 5 (by decide)).no, bi_NoTable⟩, ⟨_, _, ⟨(at_ 6 (by decide)).made, iC6, fJ6, (at_ 6 (by decide)).kp⟩, ok_NoMove_init J_NoMove (at_ 6 (by decide)).xc (at_ 6 (by decide)).no, bi_NoMove⟩, ⟨_, _, ⟨(at_ 7 (by decide)).made, iC7, fJ7, (at_ 7 (by decide)).kp⟩, ok_NoFile_init J_NoFile (at_ 7 (by decide)).xc (at_ 7 (by decide)).no, bi_NoFile⟩, ⟨(at_ 8 (by decide)).made, iC8, (at_ 8 (by decide)).kp⟩, ⟨(at_ 9 (by decide)).made, iC9, (at_ 9 (by decide)).kp⟩⟩
    have gt : Fn l.prog w K mg base 1 "_law_tape" ["_law_script"] (spTape K) := ⟨_, _, ok_tape F_law_tape, b_law_tape, F_law_tape.kp, m_law_tape⟩
    have gn : Fn l.prog w K mg base 1 "_law_next" ["_law_tape_here", "_law_many"] (spNext K) := ⟨_, _, ok_next F_law_next m, b_law_next, F_law_next.kp, m_law_next⟩
    have gf : Fn l.prog w K mg base 1 "_law_fields" ["_law_e"] (spFields (pick [C0, C1, C2, C3, C4, C5, C6, C7, C8, C9])) := ⟨_, _, ok_fields E F_law_fields m, b_law_fields, F_law_fields.kp, m_law_fields⟩
    have gs : Fn l.prog w K mg base 1 "_law_sorts" ["_law_e"] (spSorts (pick [C0, C1, C2, C3, C4, C5, C6, C7, C8, C9])) := ⟨_, _, ok_sorts E F_law_sorts m, b_law_sorts, F_law_sorts.kp, m_law_sorts⟩
    have gr : Fn l.prog w K mg base 3 "_law_raised" ["_law_k", "_law_number", "_law_word", "_law_path"] (spRaised (pick [C0, C1, C2, C3, C4, C5, C6, C7, C8, C9])) := ⟨_, _, ok_raised E Z F_law_raised, b_law_raised, F_law_raised.kp, m_law_raised⟩
    exact ok_law E F_law m gt gn gf gs gr
  · rw [(at_ j hj).kit (at_ k hk) (fun z => A.nm (z ▸ pick_mem hk))]
    congr 1
    exact decide_eq_decide.mpr (Iff.of_eq (pick_inj A.nd hj hk))
theorem walk {l : PySem.W.OpenLaw} {q : Program} {loose : List Str} {XP : (Str → Option Value) → Heap → Prop} {YP : World → Heap → Prop} {d : DefRec} {K : Params → PySem.W.Frag} (hn : l.most = some 63) (hdf : d.params.defaults = [])
    (hY : ∀ (w : World) (h : Heap), YP w h → (K w.params).In h)
    (F : ∀ (w : World) (mg : Str → Option Value) (fa : Addr) (h : Heap), (K w.params).In h → h.Ns mainGlobals mg → mg d.name = some (.ref fa) →
      ∃ fd : FuncData, (∀ (s : Shared) (u : Value), BindsTo s fd ⟨[u], []⟩ [("_law_script", u)]) ∧ ∀ base : Heap, (K w.params).In base → base.Ns mainGlobals mg → FnOk l.prog w (K w.params) mg base CX0 4 fa fd ["_law_script"] (spLaw (K w.params))) :
    PySem.W.WalkO q loose XP YP l.row.toRowW d [] (fun f vs => PySem.call f vs) :=
  L2.walk_of (n := 63) (k := 4) (x := "_law_script") (CX := fun _ => CX0) (sp := fun w => spLaw (K w.params)) hn (by decide) hdf ⟨rfl, by decide, by decide⟩ hY F (fun _ _ a ns hl _ hS => ⟨a, ns, rfl, hS, hl, fun _ => rfl⟩) fun _ _ _ _ _ z => z
end K97
open PySem PySem.W PyProof.Rows
set_option maxRecDepth 100000 in
set_option maxHeartbeats 0 in
theorem PySem.Challenge.cw_makes_k97_refusals_apart_holds : PySem.Challenge.rw_makes_k97_refusals_apart.Holds := by
  w_on; o_law; k_head; (case hw => w_witness2)
  k_fill
  refine K97.walk (l := PySem.Challenge.rw_makes_k97_refusals_apart) rfl rfl (fun w h Y => PySem.W.kIn_of Y) ?F
  case F =>
    intro w mg fa h KX G hmg
    refine' K97.all_mk KX G hmg ?a1 ?l1 ?c1 ?k1 ?a2 ?l2 ?c2 ?k2 ?a3 ?l3 ?c3 ?k3 ?a4 ?l4 ?c4 ?k4 ?a5 ?l5 ?c5 ?k5 ?a6 ?l6 ?c6 ?k6 ?aM ?aC0 ?aC1 ?aC2 ?aC3 ?aC4 ?aC5 ?aC6 ?aC7 ?aC8 ?aC9 ?iC0 ?lJ0 ?cJ0 ?kJ0 ?fJ0 ?iC1 ?lJ1 ?cJ1 ?kJ1 ?fJ1 ?iC2 ?lJ2 ?cJ2 ?kJ2 ?fJ2 ?iC3 ?lJ3 ?cJ3 ?kJ3 ?fJ3 ?iC4 ?lJ4 ?cJ4 ?kJ4 ?fJ4 ?iC5 ?lJ5 ?cJ5 ?kJ5 ?fJ5 ?iC6 ?lJ6 ?cJ6 ?kJ6 ?fJ6 ?iC7 ?lJ7 ?cJ7 ?kJ7 ?fJ7 ?iC8 ?iC9 ?xx ?z_len ?z_max ?z_isinstance ?z_ValueError ?z_range
    (case a1 => k_is); (case l1 => k_is); (case c1 => k_is); (case k1 => k_is)
    (case a2 => k_is); (case l2 => k_is); (case c2 => k_is); (case k2 => k_is)
    (case a3 => k_is); (case l3 => k_is); (case c3 => k_is); (case k3 => k_is)
    (case a4 => k_is); (case l4 => k_is); (case c4 => k_is); (case k4 => k_is)
    (case a5 => k_is); (case l5 => k_is); (case c5 => k_is); (case k5 => k_is)
    (case a6 => k_is); (case l6 => k_is); (case c6 => k_is); (case k6 => k_is)
    (case aM => k_is); (case aC0 => k_is); (case aC1 => k_is); (case aC2 => k_is); (case aC3 => k_is); (case aC4 => k_is); (case aC5 => k_is); (case aC6 => k_is); (case aC7 => k_is); (case aC8 => k_is); (case aC9 => k_is)
    (case iC0 => k_is); (case lJ0 => k_is); (case cJ0 => k_is); (case kJ0 => k_is); (case fJ0 => k_is)
    (case iC1 => k_is); (case lJ1 => k_is); (case cJ1 => k_is); (case kJ1 => k_is); (case fJ1 => k_is)
    (case iC2 => k_is); (case lJ2 => k_is); (case cJ2 => k_is); (case kJ2 => k_is); (case fJ2 => k_is)
    (case iC3 => k_is); (case lJ3 => k_is); (case cJ3 => k_is); (case kJ3 => k_is); (case fJ3 => k_is)
    (case iC4 => k_is); (case lJ4 => k_is); (case cJ4 => k_is); (case kJ4 => k_is); (case fJ4 => k_is)
    (case iC5 => k_is); (case lJ5 => k_is); (case cJ5 => k_is); (case kJ5 => k_is); (case fJ5 => k_is)
    (case iC6 => k_is); (case lJ6 => k_is); (case cJ6 => k_is); (case kJ6 => k_is); (case fJ6 => k_is)
    (case iC7 => k_is); (case lJ7 => k_is); (case cJ7 => k_is); (case kJ7 => k_is); (case fJ7 => k_is)
    (case iC8 => k_is)
    (case iC9 => k_is)
    (case xx => kernel_rfl)
    (case z_len => k_is); (case z_max => k_is); (case z_isinstance => k_is); (case z_ValueError => k_is); (case z_range => k_is)
