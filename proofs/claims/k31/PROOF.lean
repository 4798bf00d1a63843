import PyProof.Rows.All
import Wide.All
import OpenK.AllK
import Wide.FinOn
import Lean
import PyProof.EqAt
import PyProof.EqKinds
import PyProof.TupleCall
import KE.KIsAll
import PyProof.ExcArgsOwn
import PyProof.ExcAttrAll.ValueError
import KE.KTryMore
import PyProof.NeKinds
import PyProof.Rows.CallKwBuiltin
import KE.KUnpack
import PyProof.Rows.SortRuns
import PyProof.ListRange
import KE.KSortKey
import KE.KLam
import KE.KItemsList
import PyProof.Rows.SortWalk
import KE.KSortTup
import PyProof.Rows.SortStr
import PyProof.Rows.SetFrom
import KE.KDictList
import PyProof.MaxThree
import PySem.Challenge.RW_bellbook_k31_whole_one_in_two_parts
set_option Elab.async false
set_option linter.all false
set_option maxRecDepth 100000
/-! THE HAND LAYER, for ints, bools, texts, own classes, LISTS and tuples (index, slices, in, append, pop ..), calls, loops. Paste it whole ahead of your own text; what your proof does not reach may be deleted. -/
namespace L2
open PySem PySem.Spec PyProof.Rows

/-- a key: an int or a str -/
abbrev Key := Sum Int Str
def keyIs : Key → Value → Bool
  | .inl k, v => Value.isInt k v
  | .inr x, v => Value.isStrOf x v
def keyH (w : World) : Key → Int
  | .inl k => hashInt k
  | .inr x => hashStr w x
theorem keyIs_shape : ∀ {k : Key} {v : Value}, keyIs k v = true → (∃ i t, k = Sum.inl i ∧ v = Value.int i t) ∨ (∃ x t, k = Sum.inr x ∧ v = Value.str x t)
  | .inl i, v, h => by
    obtain ⟨t, e⟩ := Value.isInt_shape (k := i) (v := v) h
    exact .inl ⟨i, t, rfl, e⟩
  | .inr x, v, h => by
    obtain ⟨t, e⟩ := Value.isStrOf_shape (x := x) (v := v) h
    exact .inr ⟨x, t, rfl, e⟩
theorem keyIs_int (i : Int) (t : Tok) : keyIs (.inl i) (.int i t) = true := by simp [keyIs, Value.isInt]
theorem keyIs_str (x : Str) (t : Tok) : keyIs (.inr x) (.str x t) = true := by simp [keyIs, Value.isStrOf]
theorem key_ll (a b : Int) : decide ((Sum.inl a : Key) = Sum.inl b) = (a == b) := by
  by_cases e : a = b
  · subst e; simp
  · have h : ¬ (Sum.inl a : Key) = Sum.inl b := fun q => e (Sum.inl.inj q)
    rw [decide_eq_false h]
    exact (beq_eq_false_iff_ne.mpr e).symm
theorem key_rr (a b : Str) : decide ((Sum.inr a : Key) = Sum.inr b) = decide (a = b) := by
  by_cases e : a = b
  · subst e; simp
  · have h : ¬ (Sum.inr a : Key) = Sum.inr b := fun q => e (Sum.inr.inj q)
    rw [decide_eq_false h, decide_eq_false e]
theorem key_lr (a : Int) (b : Str) : decide ((Sum.inl a : Key) = Sum.inr b) = false := decide_eq_false (fun q => nomatch q)
theorem key_rl (a : Str) (b : Int) : decide ((Sum.inr a : Key) = Sum.inl b) = false := decide_eq_false (fun q => nomatch q)

def mixKind (prog : Program) (w : World) : PySem.KeyKind prog w Key where
  is := keyIs
  hash := keyH w
  inj := fun v a b ha hb => by
    rcases keyIs_shape ha with ⟨i, t, rfl, rfl⟩ | ⟨x, t, rfl, rfl⟩
    · rcases keyIs_shape hb with ⟨j, u, rfl, e⟩ | ⟨y, u, rfl, e⟩
      · injection e with e1 _; rw [e1]
      · exact nomatch e
    · rcases keyIs_shape hb with ⟨j, u, rfl, e⟩ | ⟨y, u, rfl, e⟩
      · exact nomatch e
      · injection e with e1 _; rw [e1]
  byValue := fun k v h => by
    rcases keyIs_shape h with ⟨i, t, rfl, rfl⟩ | ⟨x, t, rfl, rfl⟩ <;> rfl
  pyHash := fun hv h => by
    rcases keyIs_shape hv with ⟨i, t, rfl, rfl⟩ | ⟨x, t, rfl, rfl⟩
    · exact wpAny_pyHash_int h
    · exact wpAny_pyHash_str h
  eqBool := fun hu hv h => by
    rcases keyIs_shape hu with ⟨i, t, rfl, rfl⟩ | ⟨x, t, rfl, rfl⟩
    · rcases keyIs_shape hv with ⟨j, u, rfl, rfl⟩ | ⟨y, u, rfl, rfl⟩
      · rw [key_ll] at h; exact wpAny_eqBool_int h
      · rw [key_lr] at h; exact SeqAt.EqAt.int_str i t y u _ _ _ _ h
    · rcases keyIs_shape hv with ⟨j, u, rfl, rfl⟩ | ⟨y, u, rfl, rfl⟩
      · rw [key_rl] at h; exact SeqAt.EqAt.str_int x t j u _ _ _ _ h
      · rw [key_rr] at h; exact wpAny_eqBool_str h
  «strs» := fun k x t v h => by
    rcases keyIs_shape h with ⟨i, u, rfl, e⟩ | ⟨y, u, rfl, e⟩
    · exact nomatch e
    · injection e with e1 _
      subst e1
      cases v <;> rfl

theorem mixKind_int (prog : Program) (w : World) (i : Int) (t : Tok) : (mixKind prog w).is (.inl i) (.int i t) = true := keyIs_int i t
theorem mixKind_str (prog : Program) (w : World) (x : Str) (t : Tok) : (mixKind prog w).is (.inr x) (.str x t) = true := keyIs_str x t
end L2

namespace L2
open PySem PySem.Spec PyProof.Rows

/-- a value, without the heap -/
inductive V where
  | non | bl (b : Bool) | int (i : Int) | str (x : Str) | byt (b : Array UInt8) | flt (b : UInt64) | ref (a : Addr) | ty (n : String)
  deriving DecidableEq

def RelV : V → Value → Prop
  | .non, u => u = Value.none
  | .bl b, u => u = Value.bool b
  | .int i, u => ∃ t, u = Value.int i t
  | .str x, u => ∃ t, u = Value.str x t
  | .byt b, u => ∃ t, u = Value.bytes b t
  | .flt b, u => ∃ t, u = Value.float b t
  | .ref a, u => u = Value.ref a
  | .ty n, u => u = Value.type n

abbrev Vals : List V → List Value → Prop := Paired RelV
theorem Vals.length {xs : List V} {us : List Value} (r : Vals xs us) : xs.length = us.length := Paired.length r
theorem Vals.get : ∀ {xs : List V} {us : List Value} {i : Nat} {x : V}, Vals xs us → xs[i]? = some x → ∃ u, us[i]? = some u ∧ RelV x u
  | _, _, _, _, .nil, e => by simp at e
  | _, _, 0, _, .cons r _, e => by simp at e; subst e; exact ⟨_, rfl, r⟩
  | _, _, i + 1, x, .cons _ t, e => by
    obtain ⟨u, h1, h2⟩ := Vals.get (i := i) (x := x) t (by simpa using e)
    exact ⟨u, by simpa using h1, h2⟩
theorem Vals.set {x : V} {u : Value} (r : RelV x u) : ∀ {xs : List V} {us : List Value} (i : Nat), Vals xs us → Vals (xs.set i x) (us.set i u)
  | _, _, _, .nil => .nil
  | _, _, 0, .cons _ t => .cons r t
  | _, _, i + 1, .cons q t => .cons q (Vals.set r i t)
theorem Vals.append : ∀ {xs ys : List V} {us ws : List Value}, Vals xs us → Vals ys ws → Vals (xs ++ ys) (us ++ ws)
  | _, _, _, _, .nil, s => s
  | _, _, _, _, .cons r t, s => .cons r (Vals.append t s)
theorem Vals.take : ∀ {xs : List V} {us : List Value} (n : Nat), Vals xs us → Vals (xs.take n) (us.take n)
  | _, _, 0, _ => .nil
  | _, _, _ + 1, .nil => .nil
  | _, _, n + 1, .cons r t => .cons r (Vals.take n t)
theorem Vals.drop : ∀ {xs : List V} {us : List Value} (n : Nat), Vals xs us → Vals (xs.drop n) (us.drop n)
  | _, _, 0, r => r
  | _, _, _ + 1, .nil => .nil
  | _, _, n + 1, .cons _ t => Vals.drop n t
def RelO : Option V → Option Value → Prop
  | some v, some u => RelV v u
  | none, none => True
  | _, _ => False
def KV {κ : Type} : List (κ × V) → List (κ × Value) → Prop := Paired fun (p : κ × V) (q : κ × Value) => p.1 = q.1 ∧ RelV p.2 q.2

/-- a key of a dict (00_mix): an int or a text -/
def kV : Key → V
  | .inl i => .int i
  | .inr x => .str x

/-- what stands at a tracked address -/
inductive HO where
  /-- a list -/
  | lst (xs : List V)
  /-- a tuple (never changes) -/
  | tup (xs : List V)
  /-- a dict whose keys are ints and texts; one whose keys are tuples of ints and texts (the empty one is both) -/
  | dK (kvs : List (Key × V)) | dT (kvs : List (List Key × V))
  /-- a set of ints: its members, its size -/
  | set (S : Int → Bool) (n : Nat)
  /-- an instance of the class at C, its dict at dx, its attributes -/
  | ins (C dx : Addr) (fs : List (Str × V))
  /-- the dict of the instance at x -/
  | own (x : Addr)
  /-- the dict of an exception -/
  | xd (fs : List (Str × V))
  /-- a bound method, f of x -/
  | met (f x : Addr)
  /-- a range object lo, lo + 1, .. below hi -/
  | rng (lo hi : Int)
  /-- a thing that is known to the object (the script; a dict while a loop walks it): read, never written while it is so -/
  | frz (o : Obj) (u : HO)
  /-- a code object's table -/
  | tbl (ps : Array Value)
  /-- any other thing, by what is true of its one object (a def of one's own: SetO a S n := HO.ext fun h => ..) -/
  | ext (φ : Heap → Prop)

abbrev Hp := Addr → Option HO
def upd (H : Hp) (a : Addr) (o : HO) : Hp := fun b => if b = a then some o else H b
theorem upd_same {H : Hp} {a : Addr} {o : HO} : upd H a o a = some o := by unfold upd; rw [if_pos rfl]
theorem upd_ne {H : Hp} {a b : Addr} {o : HO} (h : b ≠ a) : upd H a o b = H b := by unfold upd; rw [if_neg h]
/-- two objects of different content stand apart -/
theorem ne_of {H : Hp} {a b : Addr} {o u : HO} (h : H a = some o) (h' : H b = some u) (d : o ≠ u) : a ≠ b := by
  intro e; subst e; rw [h] at h'; exact d (Option.some.inj h')
theorem ne_of_none {H : Hp} {a b : Addr} {o : HO} (h : H a = some o) (h' : H b = none) : a ≠ b := by
  intro e; subst e; rw [h] at h'; cases h'

section
variable (P : Program) (w : World)
def ObjOk (H : Hp) (h : Heap) (a : Addr) : HO → Prop
  | .lst xs => xs.length ≤ sizeLine ∧ ∃ (its : List Value) (n : Nat), Vals xs its ∧ h.get? a = some { cls := .type "list", data := .seq its.toArray n }
  | .tup xs => xs.length ≤ sizeLine ∧ ∃ its : List Value, Vals xs its ∧ IsTup h a its.toArray
  | .dK kvs => kvs.length ≤ sizeLine ∧ (a == sysModules) = false ∧ ∃ vs, KV kvs vs ∧ h.DictOf (mixKind P w) a vs
  | .dT kvs => kvs.length ≤ sizeLine ∧ (a == sysModules) = false ∧ ∃ xs : List (List Key × Addr × Value),
      Paired (fun (p : List Key × V) (q : List Key × Addr × Value) => p.1 = q.1 ∧ H q.2.1 = some (.tup (p.1.map kV)) ∧ RelV p.2 q.2.2) kvs xs ∧
      ∃ o es ep, h.get? a = some o ∧ o.ExactDict ∧ o.data = .dict es ep ∧ es.toList = xs.map (entryOfKey (tupleKind (mixKind P w))) ∧ (xs.map (·.1)).Nodup
  | .set S n => h.SetOf (intKind P w) a S n
  | .ins C dx fs => H dx = some (.own a) ∧ fs.length ≤ 1000 ∧ dx ≠ a ∧ h.get? a = some (PySem.W.instObj C dx) ∧
      ∃ mA, h.Ns1 dx mA ∧ (∀ f, RelO (fs.lookup f) (mA f)) ∧ PySem.Within mA (fs.map (·.1))
  | .own _ => ∃ o, h.get? a = some o
  | .xd fs => ∃ mA, h.Ns1 a mA ∧ ∀ f, RelO (fs.lookup f) (mA f)
  | .rng lo hi => ∃ t u v, h.get? a = some { cls := .type "range", data := .fields #[.int lo t, .int hi u, .int 1 v] }
  | .frz o u => h.get? a = some o ∧ ObjOk H h a u
  | .tbl ps => h.get? a = some { cls := .none, data := .fields ps }
  | .met f x => h.get? a = some (PySem.W.methodObj (.ref f) (.ref x))
  | .ext φ => φ h ∧ (∃ o, h.get? a = some o) ∧ ∀ h1 h2 : Heap, φ h1 → (∀ o, h1.get? a = some o → h2.get? a = some o) → φ h2
/-- the abstract heap is held -/
def HOk (H : Hp) (h : Heap) : Prop := ∀ a o, H a = some o → ObjOk P w H h a o
end

section
variable {P : Program} {w : World} {H H' : Hp} {h h' : Heap} {a : Addr} {o : HO}
theorem ObjOk.lt (x : ObjOk P w H h a o) : a < h.objs.size := by
  cases o with
  | lst xs => obtain ⟨_, _, _, _, e⟩ := x; exact Heap.lt_size e
  | tup xs => obtain ⟨_, _, _, p⟩ := x; exact p.lt
  | dK kvs => obtain ⟨_, _, _, _, o, _, _, e, _⟩ := x; exact Heap.lt_size e
  | dT kvs => obtain ⟨_, _, _, _, o, _, _, e, _⟩ := x; exact Heap.lt_size e
  | set S n => obtain ⟨o, _, _, _, e, _⟩ := x; exact Heap.lt_size e
  | ins C dx fs => obtain ⟨_, _, _, e, _⟩ := x; exact Heap.lt_size e
  | own y => obtain ⟨_, e⟩ := x; exact Heap.lt_size e
  | xd fs => obtain ⟨_, ⟨_, _, _, e, _⟩, _⟩ := x; exact Heap.lt_size e
  | rng lo hi => obtain ⟨_, _, _, e⟩ := x; exact Heap.lt_size e
  | frz ob u => obtain ⟨e, _⟩ := x; exact Heap.lt_size e
  | tbl ps => exact Heap.lt_size (show h.get? a = some _ from x)
  | met f y => exact Heap.lt_size (show h.get? a = some _ from x)
  | ext φ => obtain ⟨_, ⟨_, e⟩, _⟩ := x; exact Heap.lt_size e
theorem Paired.mapP {α β : Type} {F G : α → β → Prop} : ∀ {l₁ : List α} {l₂ : List β}, Paired F l₁ l₂ → (∀ a b, F a b → G a b) → Paired G l₁ l₂
  | _, _, .nil, _ => .nil
  | _, _, .cons r t, f => .cons (f _ _ r) (Paired.mapP t f)
/-- what an object's description leans on: its own object, its own dict, the tuples -/
theorem ObjOk.stay (x : ObjOk P w H h a o) (k : ∀ b u, (b = a ∨ H b = some (.own a)) → h.get? b = some u → h'.get? b = some u)
    (ho : ∀ b, H b = some (.own a) → H' b = some (.own a)) (ht : ∀ b xs, H b = some (.tup xs) → H' b = some (.tup xs)) : ObjOk P w H' h' a o := by
  induction o with
  | lst xs => obtain ⟨z, its, n, r, e⟩ := x; exact ⟨z, its, n, r, k _ _ (.inl rfl) e⟩
  | tup xs => obtain ⟨z, its, r, ob, e, c⟩ := x; exact ⟨z, its, r, ob, k _ _ (.inl rfl) e, c⟩
  | dK kvs => obtain ⟨z, y, vs, r, ob, es, ep, e, c⟩ := x; exact ⟨z, y, vs, r, ob, es, ep, k _ _ (.inl rfl) e, c⟩
  | dT kvs =>
    obtain ⟨z, y, xs, r, ob, es, ep, e, c⟩ := x
    exact ⟨z, y, xs, Paired.mapP r fun p q z => ⟨z.1, ht _ _ z.2.1, z.2.2⟩, ob, es, ep, k _ _ (.inl rfl) e, c⟩
  | set S n => obtain ⟨ob, es, ep, t, e, c⟩ := x; exact ⟨ob, es, ep, t, k _ _ (.inl rfl) e, c⟩
  | ins C dx fs =>
    obtain ⟨d, z, ne, e, mA, ⟨od, es, ep, e2, c⟩, r⟩ := x
    exact ⟨ho _ d, z, ne, k _ _ (.inl rfl) e, mA, ⟨od, es, ep, k _ _ (.inr d) e2, c⟩, r⟩
  | own y => obtain ⟨ob, e⟩ := x; exact ⟨ob, k _ _ (.inl rfl) e⟩
  | xd fs => obtain ⟨mA, ⟨od, es, ep, e, c⟩, r⟩ := x; exact ⟨mA, ⟨od, es, ep, k _ _ (.inl rfl) e, c⟩, r⟩
  | rng lo hi => obtain ⟨t, u, v, e⟩ := x; exact ⟨t, u, v, k _ _ (.inl rfl) e⟩
  | frz ob u ih => obtain ⟨e, q⟩ := x; exact ⟨k _ _ (.inl rfl) e, ih q⟩
  | tbl ps =>
    have e : h.get? a = some { cls := .none, data := .fields ps } := x
    show h'.get? a = some { cls := .none, data := .fields ps }
    exact k a _ (.inl rfl) e
  | met f y =>
    have e : h.get? a = some (PySem.W.methodObj (.ref f) (.ref y)) := x
    show h'.get? a = some (PySem.W.methodObj (.ref f) (.ref y))
    exact k a _ (.inl rfl) e
  | ext φ => obtain ⟨p, ⟨o, e⟩, st⟩ := x; exact ⟨st _ _ p fun o q => k _ _ (.inl rfl) q, ⟨o, k _ _ (.inl rfl) e⟩, st⟩
theorem HOk.lt (x : HOk P w H h) (e : H a = some o) : a < h.objs.size := (x a o e).lt
theorem HOk.fresh (x : HOk P w H h) (e : h.objs.size ≤ a) : H a = none := by
  cases q : H a with
  | none => rfl
  | some u => exact absurd (Nat.lt_of_lt_of_le (x.lt q) e) (Nat.lt_irrefl _)
/-- every object of the heap is kept -/
theorem HOk.kept (x : HOk P w H h) (k : ∀ b u, h.get? b = some u → h'.get? b = some u) : HOk P w H h' := fun a o e =>
  (x a o e).stay (fun b u _ q => k b u q) (fun _ q => q) fun _ _ q => q
/-- a new object is laid and tracked -/
theorem HOk.laid (x : HOk P w H h) (k : ∀ b u, h.get? b = some u → h'.get? b = some u) (hp : h.objs.size ≤ a) (new : ObjOk P w (upd H a o) h' a o) : HOk P w (upd H a o) h' := fun b u e => by
  have hn := x.fresh hp
  by_cases hb : b = a
  · subst hb; rw [upd_same] at e; cases e; exact new
  · rw [upd_ne hb] at e
    exact (x b u e).stay (fun c v _ q => k c v q) (fun c q => by rw [upd_ne (ne_of_none q hn)]; exact q) fun c xs q => by rw [upd_ne (ne_of_none q hn)]; exact q
end

/-- what may be read as u: it is u, or a known u -/
def Rd (H : Hp) (a : Addr) (u : HO) : Prop := H a = some u ∨ ∃ o, H a = some (.frz o u)
theorem Rd.ok {P : Program} {w : World} {H : Hp} {h : Heap} {a : Addr} {u : HO} (r : Rd H a u) (x : HOk P w H h) : ObjOk P w H h a u := by
  rcases r with r | ⟨o, r⟩
  · exact x a u r
  · obtain ⟨_, q⟩ := x a _ r
    exact q
/-- what may be written -/
def Mut : Option HO → Prop
  | some (.lst _) => True
  | some (.dK _) => True
  | some (.dT _) => True
  | some (.set _ _) => True
  | some (.ins _ _ _) => True
  | some (.ext _) => True
  | _ => False
section
variable {P : Program} {w : World} {H : Hp} {h h' : Heap} {x e : Addr} {o' : HO}
/-- the object at e is changed: x itself, or the dict of the instance x -/
theorem HOk.write (ok : HOk P w H h) (mu : Mut (H x)) (he : e = x ∨ H e = some (.own x)) (k : ∀ b u, b ≠ e → h.get? b = some u → h'.get? b = some u) (heo : ∃ u, h'.get? e = some u)
    (new : ObjOk P w (upd H x o') h' x o') : HOk P w (upd H x o') h' := fun b u q => by
  have nown : ∀ c y, H c = some (.own y) → c ≠ x := fun c y r z => by subst z; rw [r] at mu; exact mu
  have ntup : ∀ c xs, H c = some (.tup xs) → c ≠ x := fun c xs r z => by subst z; rw [r] at mu; exact mu
  by_cases hb : b = x
  · subst hb; rw [upd_same] at q; cases q; exact new
  · rw [upd_ne hb] at q
    by_cases hbe : b = e
    · have q' : H b = some (.own x) := by
        rcases he with z | z
        · exact absurd (hbe.trans z) hb
        · rw [hbe]; exact z
      rw [q] at q'; cases q'
      obtain ⟨v, hv⟩ := heo
      exact ⟨v, by rw [hbe]; exact hv⟩
    · refine (ok b u q).stay (fun c v hc r => k c v ?_ r) (fun c r => by rw [upd_ne (nown c b r)]; exact r) fun c xs r => by rw [upd_ne (ntup c xs r)]; exact r
      rcases hc with rfl | hc
      · exact hbe
      · rintro rfl
        rcases he with z | z
        · exact nown c b hc z
        · rw [hc] at z; cases z; exact hb rfl
end

/-! ### kept unless tracked; of the frames at fs (the callers') the slots may change (an exception that passes writes there); of the records at ex (iterators) nothing is said -/
structure Un (fs ex : List Addr) (H H' : Hp) (h h' : Heap) : Prop where
  keep : ∀ b o, h.get? b = some o → H b = none → b ∉ fs → b ∉ ex → h'.get? b = some o
  slot : ∀ b o, h.get? b = some o → H b = none → b ∈ fs → b ∉ ex → ∃ sl, h'.get? b = some { o with slots := sl }
  free : ∀ b o, h.get? b = some o → H b = none → b ∉ ex → H' b = none
  there : ∀ b o, h.get? b = some o → b ∉ ex → ∃ o', h'.get? b = some o'
  tups : ∀ b xs, H b = some (.tup xs) → H' b = some (.tup xs)
  frzs : ∀ b o u, H b = some (.frz o u) → H' b = some (.frz o u)
  tbls : ∀ b ps, H b = some (.tbl ps) → ∃ more, H' b = some (.tbl (ps ++ more))
section
variable {fs fs' ex ex' : List Addr} {H H1 H2 : Hp} {h h1 h2 h' : Heap} {a x e : Addr} {o : HO}
theorem Un.any (u : Un fs ex H H1 h h1) {b : Addr} {ob : Obj} (q : h.get? b = some ob) (n : H b = none) (hx : b ∉ ex) : ∃ sl, h1.get? b = some { ob with slots := sl } := by
  by_cases hb : b ∈ fs
  · exact u.slot b ob q n hb hx
  · exact ⟨ob.slots, u.keep b ob q n hb hx⟩
theorem Un.kept (k : ∀ b u, h.get? b = some u → h'.get? b = some u) : Un fs ex H H h h' :=
  ⟨fun b ob q _ _ _ => k b ob q, fun b ob q _ _ _ => ⟨ob.slots, k b ob q⟩, fun _ _ _ n _ => n, fun b ob q _ => ⟨ob, k b ob q⟩, fun _ _ q => q, fun _ _ _ q => q, fun _ ps q => ⟨#[], by rw [q]; simp⟩⟩
theorem Un.refl : Un fs ex H H h h := Un.kept fun _ _ q => q
theorem Un.laid (k : ∀ b u, h.get? b = some u → h'.get? b = some u) (hp : h.objs.size ≤ a) (hn : H a = none) : Un fs ex H (upd H a o) h h' where
  keep := fun b u q _ _ _ => k b u q
  slot := fun b u q _ _ _ => ⟨u.slots, k b u q⟩
  free := fun b u q n _ => by rw [upd_ne (Nat.ne_of_lt (Nat.lt_of_lt_of_le (Heap.lt_size q) hp))]; exact n
  there := fun b u q _ => ⟨u, k b u q⟩
  tups := fun b xs q => by rw [upd_ne (ne_of_none q hn)]; exact q
  frzs := fun b u xs q => by rw [upd_ne (ne_of_none q hn)]; exact q
  tbls := fun b ps q => ⟨#[], by rw [upd_ne (ne_of_none q hn), q]; simp⟩
theorem Un.write (mu : Mut (H x)) (he : e = x ∨ H e = some (.own x)) (k : ∀ b u, b ≠ e → h.get? b = some u → h'.get? b = some u) (heo : ∃ u, h'.get? e = some u) : Un fs ex H (upd H x o) h h' := by
  have hx : ∀ b, H b = none → b ≠ x := fun b n z => by subst z; rw [n] at mu; exact mu
  have hb : ∀ b, H b = none → b ≠ e := fun b n z => by
    subst z
    rcases he with r | r
    · exact hx b n r
    · rw [n] at r; cases r
  have hm : ∀ b u, H b = some u → ¬ Mut (some u) → b ≠ x := fun b u q nm z => by subst z; rw [q] at mu; exact nm mu
  refine ⟨fun b u q n _ _ => k b u (hb b n) q, fun b u q n _ _ => ⟨u.slots, k b u (hb b n) q⟩, fun b u q n _ => by rw [upd_ne (hx b n)]; exact n, fun b u q _ => ?_,
    fun b xs q => by rw [upd_ne (hm b _ q fun z => z)]; exact q, fun b u xs q => by rw [upd_ne (hm b _ q fun z => z)]; exact q, fun b ps q => ⟨#[], by rw [upd_ne (hm b _ q fun z => z), q]; simp⟩⟩
  by_cases hbe : b = e
  · subst hbe; exact heo
  · exact ⟨u, k b u hbe q⟩
end

/-! ### the heap without what is tracked -/
def trk (h : Heap) (H : Hp) : List Addr := (List.range h.objs.size).filter fun a => (H a).isSome
def hidT (h : Heap) (H : Hp) : Heap := PySem.W.hideAll h (trk h H)
theorem hidT_size (h : Heap) (H : Hp) : (hidT h H).objs.size = h.objs.size := PySem.W.hideAll_size _ _
theorem hidT_get {h : Heap} {H : Hp} {b : Addr} {o : Obj} (e : h.get? b = some o) (n : H b = none) : (hidT h H).get? b = some o :=
  PySem.W.hideAll_get _ e fun hm => by
    have q : (H b).isSome = true := (List.mem_filter.mp hm).2
    rw [n] at q; simp at q
theorem of_hidT {h : Heap} {H : Hp} {b : Addr} {o : Obj} (e : (hidT h H).get? b = some o) : h.get? b = some o ∧ H b = none := by
  have e' : h.get? b = some o := PySem.W.of_hideAll (trk h H) e
  refine ⟨e', ?_⟩
  cases q : H b with
  | none => rfl
  | some x =>
    have hm : b ∈ trk h H := List.mem_filter.mpr ⟨List.mem_range.mpr (Heap.lt_size e'), by simp [q]⟩
    have z : (hidT h H).get? b = none := PySem.W.hideAll_none (trk h H) hm
    rw [z] at e; cases e

/-! ### OpenK's ledger, filled with every new object but one -/
end L2

namespace L2
open PySem PySem.Spec PyProof.Rows

/-- the module's facts, over the base: the heap at the law's entry without what is tracked there -/
structure Mod (K : PySem.W.Frag) (mg : Str → Option Value) (base : Heap) : Prop where
  kin : K.In base
  glob : base.Ns mainGlobals mg
  blt : ∃ mb, base.Ns builtinsNs mb ∧ ∀ x : Str, x ≠ "__name__" → mb x = bootBuiltins x
  nolimit : base.NoLimit

/-- the context: a def's body (or a comprehension's block) running. base: fixed through the whole law; s₀, H₀: the entry; outer: the frames whose slots others may change (a def's callers); stack: all frames that run;
   ex: iterators that were made ahead of the entry and are walked here (a comprehension's); fn: the names whose cells were made at the entry (a def: all; a comprehension's block: its own); calm: not within an except suite; pn: pins that every state bears; xe: what is wanted of an exception that leaves the code -/
structure Cx where
  prog : Program
  w : World
  K : PySem.W.Frag
  mg : Str → Option Value
  base : Heap
  A : Around
  N : List Str
  s₀ : Shared
  H₀ : Hp
  env : Env
  outer : List Env
  stack : List Env
  ex : List Addr
  fn : Str → Bool
  calm : Bool
  pn : List (Addr × Obj)
  xe : Value → Shared → Prop
/-- the callers' frames -/
def frs (l : List Env) : List Addr := l.filterMap (·.frame)
abbrev Cx.fs (X : Cx) : List Addr := frs X.outer

def Vis (sc : Scope) (x : Str) : Prop := sc.names.lookup x = some .local ∨ sc.names.lookup x = some .cell ∨ sc.names.lookup x = some .free
def Loc (sc : Scope) (x : Str) : Prop := sc.names.lookup x = some .local ∨ sc.names.lookup x = some .cell
def Look (env : Env) (h : Heap) (m : Str → Option Value) (x : Str) (u : Value) : Prop :=
  (env.kindOf x = some .local ∧ m x = some u) ∨ ((env.kindOf x = some .cell ∨ env.kindOf x = some .free) ∧ ∃ c, env.cells.lookup x = some c ∧ h.IsCell c (some u))

structure Cx.Ok (X : Cx) : Prop where
  mod : Mod X.K X.mg X.base
  kind : X.env.scope.kind = .function
  glob : X.env.globals = mainGlobals
  blt : X.env.builtins = builtinsNs
  above : X.s₀.heap.objs.size ≤ X.env.locals
  inj : ∀ x y c, X.env.cells.lookup x = some c → X.env.cells.lookup y = some c → x = y
  has : ∀ x, (X.env.kindOf x = some .cell ∨ X.env.kindOf x = some .free) → ∃ c, X.env.cells.lookup x = some c
  cab : ∀ x c, X.fn x = true → X.env.cells.lookup x = some c → X.s₀.heap.objs.size ≤ c
  hd : X.calm = true → X.A.handled = none
  frames : X.A.frames = some X.stack
  stk : X.stack = X.outer ∨ (X.stack = X.env :: X.outer ∧ X.env.frame = some X.env.locals)
  exf : ∀ b ∈ X.ex, b ≠ X.env.locals ∧ ∀ x c, X.env.cells.lookup x = some c → c ≠ b
  bs : ∀ b o, X.base.get? b = some o → X.s₀.heap.get? b = some o ∧ X.H₀ b = none
  bsz : X.base.objs.size ≤ X.s₀.heap.objs.size
  noex : ∀ b o, X.base.get? b = some o → b ∉ X.ex
  exfs : ∀ b ∈ X.ex, b ∉ X.fs
  funs : X.s₀.heap.FunFrames X.base X.outer
  frf : ∀ b ∈ X.fs, X.H₀ b = none

structure Inv (X : Cx) (pins : List (Addr × Obj)) (σ : List (Option V)) (H : Hp) (s : Shared) : Prop where
  ok : X.Ok
  os : s.os = X.s₀.os
  bare : AllBare s.gens
  base : Un X.fs X.ex X.H₀ H X.s₀.heap s.heap
  loc : ∃ m, s.heap.Ns X.env.locals m ∧ ∀ (i : Nat) (x : Str) (v : V), X.N[i]? = some x → σ[i]? = some (some v) → Vis X.env.scope x → ∃ u, RelV v u ∧ Look X.env s.heap m x u
  cell : ∀ x c, X.env.cells.lookup x = some c → ∃ v, s.heap.IsCell c v
  free : H X.env.locals = none
  freeC : ∀ x c, X.env.cells.lookup x = some c → H c = none
  pin : ∀ p ∈ X.pn ++ pins, s.heap.get? p.1 = some p.2 ∧ H p.1 = none ∧ p.1 ≠ X.env.locals ∧ p.1 ∉ X.fs ∧ ∀ v, p.2.data ≠ .cell v
  hok : HOk X.prog X.w H s.heap
  len : σ.length = X.N.length

section
variable {X : Cx} {pins : List (Addr × Obj)} {σ : List (Option V)} {H H' : Hp} {s : Shared} {h' : Heap}

theorem Cx.Ok.nofr (ok : X.Ok) {b : Addr} {o : Obj} (e : X.base.get? b = some o) : b ∉ X.fs := fun hb => by
  have := (ok.funs.mem hb).1
  rw [e] at this; cases this
theorem Inv.bs (I : Inv X pins σ H s) : ∀ b o, X.base.get? b = some o → s.heap.get? b = some o ∧ H b = none := fun b o e =>
  ⟨I.base.keep b o (I.ok.bs b o e).1 (I.ok.bs b o e).2 (I.ok.nofr e) (I.ok.noex b o e), I.base.free b o (I.ok.bs b o e).1 (I.ok.bs b o e).2 (I.ok.noex b o e)⟩
theorem Inv.bk (I : Inv X pins σ H s) : ∀ b o, X.base.get? b = some o → s.heap.get? b = some o := fun b o e => (I.bs b o e).1
theorem Inv.mod (I : Inv X pins σ H s) : Mod X.K X.mg X.base := I.ok.mod
theorem Inv.kIn (I : Inv X pins σ H s) : X.K.In s.heap := I.ok.mod.kin.keeps I.bk
theorem Inv.nolimit (I : Inv X pins σ H s) : s.heap.NoLimit := I.ok.mod.nolimit.keeps I.bk
theorem Inv.lt (I : Inv X pins σ H s) : X.env.locals < s.heap.objs.size := let ⟨_, hn, _⟩ := I.loc; hn.lt
theorem Inv.sz (I : Inv X pins σ H s) : X.s₀.heap.objs.size ≤ s.heap.objs.size := Nat.le_trans I.ok.above (Nat.le_of_lt I.lt)
theorem Inv.nofs (I : Inv X pins σ H s) {a : Addr} (h : s.heap.objs.size ≤ a) : a ∉ X.fs := fun hb => by
  obtain ⟨_, o, ho, _⟩ := I.ok.funs.mem hb
  exact absurd (Nat.lt_of_lt_of_le (Heap.lt_size ho) (Nat.le_trans I.sz h)) (Nat.lt_irrefl _)
theorem Inv.cne (I : Inv X pins σ H s) : ∀ x c, X.env.cells.lookup x = some c → c ≠ X.env.locals := fun x c e z => by
  obtain ⟨v, o, ho, hd⟩ := I.cell x c e
  obtain ⟨m, ⟨o', es, ep, ho', hd', _⟩, _⟩ := I.loc
  rw [z, ho'] at ho; cases ho; rw [hd'] at hd; cases hd
theorem Inv.funs (I : Inv X pins σ H s) : s.heap.FunFrames X.base X.outer := by
  have all : ∀ (l : List Env), (∀ b ∈ frs l, b ∈ X.fs) → X.s₀.heap.FunFrames X.base l → s.heap.FunFrames X.base l := by
    intro l
    induction l with
    | nil => intro _ _; trivial
    | cons env r ih =>
      intro hs hl
      obtain ⟨hk, ⟨L, o, hf, hn, ho, hd⟩, hr⟩ := hl
      have hL : L ∈ X.fs := hs L (by unfold frs; rw [List.filterMap_cons, hf]; exact List.mem_cons_self)
      obtain ⟨sl, e⟩ := I.base.slot L o ho (I.ok.frf L hL) hL fun z => I.ok.exfs L z hL
      exact ⟨hk, ⟨L, _, hf, hn, e, hd⟩, ih (fun b hb => hs b (by unfold frs; rw [List.filterMap_cons, hf]; exact List.mem_cons_of_mem _ hb)) hr⟩
  exact all X.outer (fun _ hb => hb) I.ok.funs

/-- the frames that run, for a call -/
theorem Inv.stack (I : Inv X pins σ H s) : s.heap.FunFrames X.base X.stack := by
  rcases I.ok.stk with e | ⟨e, hf⟩
  · rw [e]; exact I.funs
  · rw [e]
    obtain ⟨m, hn, _⟩ := I.loc
    refine .cons (by rw [I.ok.kind]; decide) hf hn ?_ I.funs
    exact Heap.get?_none_of_le (Nat.le_trans I.ok.bsz I.ok.above)
theorem Inv.stkSub (I : Inv X pins σ H s) : ∀ b ∈ frs X.stack, b ∈ X.env.locals :: X.fs := fun b hb => by
  rcases I.ok.stk with e | ⟨e, hf⟩
  · rw [e] at hb; exact List.mem_cons_of_mem _ hb
  · rw [e] at hb
    unfold frs at hb
    rw [List.filterMap_cons, hf] at hb
    exact hb
theorem Inv.stkFree (I : Inv X pins σ H s) : ∀ b ∈ frs X.stack, H b = none := fun b hb => by
  rcases List.mem_cons.mp (I.stkSub b hb) with e | hb
  · rw [e]; exact I.free
  · obtain ⟨_, o, ho, _⟩ := I.ok.funs.mem hb
    exact I.base.free b o ho (I.ok.frf b hb) fun z => I.ok.exfs b z hb

/-- THE STEP: the untracked objects but the frame and the records at ch are kept (the callers' frames up to slots), the frame's map is kept, the new abstract heap is held -/
theorem Inv.step {g' : Array GenState} {t' : Nat} {d' : Drawn} {ch : List Addr} (I : Inv X pins σ H s)
    (hch : ∀ b ∈ ch, (b ∈ X.ex ∨ X.s₀.heap.objs.size ≤ b) ∧ b ≠ X.env.locals ∧ (∀ x c, X.env.cells.lookup x = some c → c ≠ b) ∧ ∀ p ∈ X.pn ++ pins, p.1 ≠ b)
    (keep : ∀ b o, b ≠ X.env.locals → b ∉ X.fs → b ∉ ch → s.heap.get? b = some o → H b = none → h'.get? b = some o)
    (slot : ∀ b o, b ≠ X.env.locals → b ∈ X.fs → b ∉ ch → s.heap.get? b = some o → H b = none → ∃ sl, h'.get? b = some { o with slots := sl }) (free : ∀ b o, b ∉ ch → s.heap.get? b = some o → H b = none → H' b = none)
    (there : ∀ b o, b ∉ ch → s.heap.get? b = some o → ∃ o', h'.get? b = some o')
    (tups : ∀ b xs, H b = some (.tup xs) → H' b = some (.tup xs)) (frzs : ∀ b o u, H b = some (.frz o u) → H' b = some (.frz o u)) (tbls : ∀ b ps, H b = some (.tbl ps) → ∃ more, H' b = some (.tbl (ps ++ more)))
    (ns : ∀ m, s.heap.Ns X.env.locals m → h'.Ns X.env.locals m) (hok : HOk X.prog X.w H' h') (hg : AllBare g') :
    Inv X pins σ H' { s with heap := h', gens := g', drawn := d', toks := t' } := by
  have neL : ∀ b o, X.s₀.heap.get? b = some o → b ≠ X.env.locals := fun b o e => Nat.ne_of_lt (Nat.lt_of_lt_of_le (Heap.lt_size e) I.ok.above)
  have neC : ∀ b o, X.s₀.heap.get? b = some o → b ∉ X.ex → b ∉ ch := fun b o e hx hb => by
    rcases (hch b hb).1 with z | z
    · exact hx z
    · exact absurd (Nat.lt_of_lt_of_le (Heap.lt_size e) z) (Nat.lt_irrefl _)
  have cellK : ∀ x c, X.env.cells.lookup x = some c → ∀ v, s.heap.IsCell c v → h'.IsCell c v := fun x c e v ⟨o, ho, hd⟩ => by
    have nch : c ∉ ch := fun z => (hch c z).2.2.1 x c e rfl
    by_cases hc : c ∈ X.fs
    · obtain ⟨sl, q⟩ := slot c o (I.cne x c e) hc nch ho (I.freeC x c e)
      exact ⟨_, q, hd⟩
    · exact ⟨o, keep c o (I.cne x c e) hc nch ho (I.freeC x c e), hd⟩
  refine ⟨I.ok, I.os, hg, ⟨fun b o e n hb hx => ?_, fun b o e n hb hx => ?_, fun b o e n hx => ?_, fun b o e hx => ?_, fun b xs e => tups b xs (I.base.tups b xs e), fun b o xs e => frzs b o xs (I.base.frzs b o xs e), fun b ps e => ?_⟩, ?_, fun x c e => ?_, ?_, fun x c e => ?_, fun p hp => ?_, hok, I.len⟩
  · exact keep b o (neL b o e) hb (neC b o e hx) (I.base.keep b o e n hb hx) (I.base.free b o e n hx)
  · obtain ⟨sl, e1⟩ := I.base.slot b o e n hb hx
    obtain ⟨sl', e2⟩ := slot b _ (neL b o e) hb (neC b o e hx) e1 (I.base.free b o e n hx)
    exact ⟨sl', e2⟩
  · obtain ⟨o', e1⟩ := I.base.there b o e hx
    exact free b o' (neC b o e hx) e1 (I.base.free b o e n hx)
  · obtain ⟨o', e1⟩ := I.base.there b o e hx
    exact there b o' (neC b o e hx) e1
  · obtain ⟨m1, e1⟩ := I.base.tbls b ps e
    obtain ⟨m2, e2⟩ := tbls b _ e1
    exact ⟨m1 ++ m2, by rw [e2, Array.append_assoc]⟩
  · obtain ⟨m, hn, hl⟩ := I.loc
    refine ⟨m, ns m hn, fun i x v e1 e2 e3 => ?_⟩
    obtain ⟨u, r, l⟩ := hl i x v e1 e2 e3
    refine ⟨u, r, ?_⟩
    rcases l with l | ⟨k, c, e, z⟩
    · exact .inl l
    · exact .inr ⟨k, c, e, cellK x c e _ z⟩
  · obtain ⟨v, z⟩ := I.cell x c e
    exact ⟨v, cellK x c e v z⟩
  · obtain ⟨m, ⟨o, _, _, ho, _⟩, _⟩ := I.loc
    exact free _ o (fun z => (hch _ z).2.1 rfl) ho I.free
  · obtain ⟨v, o, ho, hd⟩ := I.cell x c e
    exact free c o (fun z => (hch c z).2.2.1 x c e rfl) ho (I.freeC x c e)
  · obtain ⟨e, n, ne, nf, d⟩ := I.pin p hp
    have nch : p.1 ∉ ch := fun z => (hch p.1 z).2.2.2 p hp rfl
    exact ⟨keep p.1 p.2 ne nf nch e n, free p.1 p.2 nch e n, ne, nf, d⟩
/-- .. where the frame's own object is kept too -/
theorem Inv.un {t' : Nat} (I : Inv X pins σ H s) (u : Un X.fs [] H H' s.heap h') (hok : HOk X.prog X.w H' h') : Inv X pins σ H' { s with heap := h', toks := t' } := by
  obtain ⟨m, ⟨o, es, ep, ho, r⟩, _⟩ := id I.loc
  obtain ⟨sl, hL⟩ := u.any ho I.free (by simp)
  exact I.step (g' := s.gens) (d' := s.drawn) (ch := []) (fun _ z => nomatch z) (fun b o _ hb _ e n => u.keep b o e n hb (by simp)) (fun b o _ hb _ e n => u.slot b o e n hb (by simp)) (fun b o _ e n => u.free b o e n (by simp)) (fun b o _ e => u.there b o e (by simp)) u.tups u.frzs u.tbls (fun m' hm => by
    obtain ⟨o', es', ep', ho', r'⟩ := hm
    rw [ho] at ho'; cases ho'
    exact ⟨_, es', ep', hL, r'⟩) hok I.bare
/-- behind a call (or a comprehension's block): the slots of this frame may have changed too, the records at ch may have turned -/
theorem Inv.call {g' : Array GenState} {t' : Nat} {d' : Drawn} {ch : List Addr} (I : Inv X pins σ H s) (u : Un (frs X.stack) ch H H' s.heap h') (hok : HOk X.prog X.w H' h') (hg : AllBare g')
    (hch : ∀ b ∈ ch, (b ∈ X.ex ∨ X.s₀.heap.objs.size ≤ b) ∧ b ≠ X.env.locals ∧ (∀ x c, X.env.cells.lookup x = some c → c ≠ b) ∧ ∀ p ∈ X.pn ++ pins, p.1 ≠ b) :
    Inv X pins σ H' { s with heap := h', gens := g', drawn := d', toks := t' } := by
  obtain ⟨m, ⟨o, es, ep, ho, r⟩, _⟩ := id I.loc
  obtain ⟨sl, hL⟩ := u.any ho I.free fun z => (hch _ z).2.1 rfl
  exact I.step (ch := ch) hch (fun b o hL hb hc e n => u.keep b o e n (fun z => (List.mem_cons.mp (I.stkSub b z)).elim hL hb) hc) (fun b o _ _ hc e n => u.any e n hc) (fun b o hc e n => u.free b o e n hc) (fun b o hc e => u.there b o e hc) u.tups u.frzs u.tbls (fun m' hm => by
    obtain ⟨o', es', ep', ho', r'⟩ := hm
    rw [ho] at ho'; cases ho'
    exact ⟨_, es', ep', hL, r'⟩) hok hg
/-- an untracked record of ours (an iterator) has turned -/
theorem Inv.turned {t' : Nat} {it : Addr} (I : Inv X pins σ H s) (k : ∀ b o, b ≠ it → s.heap.get? b = some o → h'.get? b = some o) (hn : H it = none) (hL : it ≠ X.env.locals)
    (h1 : it ∈ X.ex ∨ X.s₀.heap.objs.size ≤ it) (h2 : ∀ x c, X.env.cells.lookup x = some c → c ≠ it) (h3 : ∀ p ∈ X.pn ++ pins, p.1 ≠ it) : Inv X pins σ H { s with heap := h', toks := t' } := by
  have nit : ∀ b u, H b = some u → b ≠ it := fun b u e z => by rw [z, hn] at e; cases e
  refine I.step (g' := s.gens) (d' := s.drawn) (ch := [it]) (fun b hb => ?_) (fun b o _ _ hc e _ => k b o (fun z => hc (by simp [z])) e) (fun b o _ _ hc e _ => ⟨o.slots, k b o (fun z => hc (by simp [z])) e⟩) (fun _ _ _ _ n => n)
    (fun b o hc e => ⟨o, k b o (fun z => hc (by simp [z])) e⟩) (fun _ _ e => e) (fun _ _ _ e => e) (fun b ps e => ⟨#[], by rw [e]; simp⟩) (fun m hm => ?_) (fun b u e => ?_) I.bare
  · have e : b = it := by simpa using hb
    subst e
    exact ⟨h1, hL, h2, h3⟩
  · obtain ⟨o, es, ep, ho, r⟩ := hm
    exact ⟨o, es, ep, k _ o (Ne.symm hL) ho, r⟩
  · refine (I.hok b u e).stay (fun c v hc q => k c v ?_ q) (fun _ q => q) fun _ _ q => q
    rcases hc with z | z
    · rw [z]; exact nit b u e
    · exact nit c _ z
theorem Inv.tok (I : Inv X pins σ H s) (t : Nat) : Inv X pins σ H { s with toks := t } := I.un (h' := s.heap) (t' := t) Un.refl I.hok
/-- all objects kept -/
theorem Inv.kept {t' : Nat} (I : Inv X pins σ H s) (k : ∀ b u, s.heap.get? b = some u → h'.get? b = some u) : Inv X pins σ H { s with heap := h', toks := t' } := I.un (Un.kept k) (I.hok.kept k)
/-- a new object laid and tracked -/
theorem Inv.laid {a : Addr} {o : HO} {t' : Nat} (I : Inv X pins σ H s) (k : ∀ b u, s.heap.get? b = some u → h'.get? b = some u) (hp : s.heap.objs.size ≤ a) (new : ObjOk X.prog X.w (upd H a o) h' a o) :
    Inv X pins σ (upd H a o) { s with heap := h', toks := t' } := I.un (Un.laid k hp (I.hok.fresh hp)) (I.hok.laid k hp new)
/-- an object written -/
theorem Inv.write {x e : Addr} {o : HO} {t' : Nat} (I : Inv X pins σ H s) (mu : Mut (H x)) (he : e = x ∨ H e = some (.own x)) (k : ∀ b u, b ≠ e → s.heap.get? b = some u → h'.get? b = some u) (heo : ∃ u, h'.get? e = some u)
    (new : ObjOk X.prog X.w (upd H x o) h' x o) : Inv X pins σ (upd H x o) { s with heap := h', toks := t' } := I.un (Un.write mu he k heo) (I.hok.write mu he k heo new)
/-- forgetting slots, pins -/
theorem Inv.weak {σ' : List (Option V)} (I : Inv X pins σ H s) (hl : σ'.length = σ.length) (w : ∀ (i : Nat) v, σ'[i]? = some (some v) → σ[i]? = some (some v)) : Inv X pins σ' H s :=
  ⟨I.ok, I.os, I.bare, I.base, let ⟨m, hn, hl'⟩ := I.loc; ⟨m, hn, fun i x v e1 e2 e3 => hl' i x v e1 (w i v e2) e3⟩, I.cell, I.free, I.freeC, I.pin, I.hok, hl.trans I.len⟩
theorem Inv.pins_of {pins' : List (Addr × Obj)} (I : Inv X pins σ H s) (h : ∀ p ∈ pins', s.heap.get? p.1 = some p.2 ∧ H p.1 = none ∧ p.1 ≠ X.env.locals ∧ p.1 ∉ X.fs ∧ ∀ v, p.2.data ≠ .cell v) : Inv X pins' σ H s :=
  ⟨I.ok, I.os, I.bare, I.base, I.loc, I.cell, I.free, I.freeC, fun p hp => (List.mem_append.mp hp).elim (fun z => I.pin p (List.mem_append_left _ z)) (h p), I.hok, I.len⟩

theorem nodup_ix {N : List Str} (hN : N.Nodup) {i j : Nat} {x : Str} (a : N[i]? = some x) (b : N[j]? = some x) : i = j := by
  obtain ⟨h1, e1⟩ := List.getElem?_eq_some_iff.mp a
  obtain ⟨h2, e2⟩ := List.getElem?_eq_some_iff.mp b
  exact (List.getElem_inj hN).mp (e1.trans e2.symm)

/-- a name is stored; what changed -/
theorem store_ok2 {M : Model} {A : Around} {E : Value → Shared → Prop} {i : Nat} {x : Str} {v : V} {u : Value} {Q : Unit → Shared → Prop} (I : Inv X pins σ H s) (hN : X.N.Nodup) (hi : X.N[i]? = some x) (hx : Loc X.env.scope x) (r : RelV v u)
    (h : ∀ s', Inv X pins (σ.set i (some v)) H s' → (∃ a, Heap.SameBut a s.heap s'.heap ∧ (a = X.env.locals ∨ X.env.cells.lookup x = some a)) → Q () s') (hf : X.fn x = true ∨ X.env.scope.names.lookup x = some .local := by first | exact .inl rfl | exact .inr rfl | assumption) : wpAny M A (storeName X.env x u) Q E s := by
  obtain ⟨m, hn, hl⟩ := id I.loc
  have hcls : (X.env.scope.kind == .class || (X.env.scope.kind == .module && X.env.locals != X.env.globals)) = false := by rw [I.ok.kind]; rfl
  have hiσ : i < σ.length := by rw [I.len]; exact (List.getElem?_eq_some_iff.mp hi).1
  have cne := I.cne
  have tracked : ∀ {a : Addr} {h' : Heap}, (∃ o, s.heap.get? a = some o ∧ H a = none) → Heap.SameBut a s.heap h' → HOk X.prog X.w H h' := fun {a h'} ha hs b ob e => by
    obtain ⟨_, _, hfree⟩ := ha
    refine (I.hok b ob e).stay (fun c w' hc q => (hs.2 c ?_).trans q) (fun _ q => q) fun _ _ q => q
    rintro rfl
    rcases hc with rfl | hc
    · rw [hfree] at e; cases e
    · rw [hfree] at hc; cases hc
  rcases hx with hk | hk
  · refine wpAny_storeName_local hk hn (fun h' hn' hs => ?_) hcls
    obtain ⟨oL, _, _, hoL, _⟩ := id hn
    refine h _ ⟨I.ok, I.os, I.bare, ⟨fun b o e n hb hx => ?_, fun b o e n hb hx => ?_, I.base.free, fun b o e hx => ?_, I.base.tups, I.base.frzs, I.base.tbls⟩, ⟨_, hn', fun j y v' e1 e2 e3 => ?_⟩, fun y c e => ?_, I.free, I.freeC, fun p hp => ?_, tracked ⟨oL, hoL, I.free⟩ hs, by simpa using I.len⟩ ⟨_, hs, .inl rfl⟩
    · exact (hs.2 b (Nat.ne_of_lt (Nat.lt_of_lt_of_le (Heap.lt_size e) I.ok.above))).trans (I.base.keep b o e n hb hx)
    · obtain ⟨sl, e1⟩ := I.base.slot b o e n hb hx
      exact ⟨sl, (hs.2 b (Nat.ne_of_lt (Nat.lt_of_lt_of_le (Heap.lt_size e) I.ok.above))).trans e1⟩
    · obtain ⟨o', e1⟩ := I.base.there b o e hx
      exact ⟨o', (hs.2 b (Nat.ne_of_lt (Nat.lt_of_lt_of_le (Heap.lt_size e) I.ok.above))).trans e1⟩
    · by_cases hj : j = i
      · subst hj
        rw [hi] at e1; cases e1
        rw [List.getElem?_set_self hiσ] at e2
        cases e2
        exact ⟨u, r, .inl ⟨hk, by simp⟩⟩
      · rw [List.getElem?_set_ne (Ne.symm hj)] at e2
        obtain ⟨u', r', q⟩ := hl j y v' e1 e2 e3
        refine ⟨u', r', ?_⟩
        rcases q with ⟨k, e⟩ | ⟨k, c, e, z⟩
        · refine .inl ⟨k, ?_⟩
          have : y ≠ x := fun e => hj (nodup_ix hN e1 (e ▸ hi))
          simp [this, e]
        · exact .inr ⟨k, c, e, z.sameBut hs (cne y c e)⟩
    · obtain ⟨w', z⟩ := I.cell y c e
      exact ⟨w', z.sameBut hs (cne y c e)⟩
    · obtain ⟨e, n, ne, nf, d⟩ := I.pin p hp
      exact ⟨(hs.2 p.1 ne).trans e, n, ne, nf, d⟩
  · have hfn : X.fn x = true := by
      rcases hf with z | z
      · exact z
      · rw [z] at hk; cases hk
    obtain ⟨c, hc⟩ := I.ok.has x (.inl hk)
    obtain ⟨w', z⟩ := I.cell x c hc
    refine wpAny_storeName_cell I.ok.kind hk hc z (fun h' hc' hs => ?_)
    obtain ⟨oc, hoc, hocd⟩ := id z
    refine h { s with heap := h' } ⟨I.ok, I.os, I.bare, ⟨fun b o e n hb hx => ?_, fun b o e n hb hx => ?_, I.base.free, fun b o e hx => ?_, I.base.tups, I.base.frzs, I.base.tbls⟩, ⟨m, hn.sameBut hs (Ne.symm (cne x c hc)), fun j y v' e1 e2 e3 => ?_⟩, fun y c' e => ?_, I.free, I.freeC, fun p hp => ?_, tracked ⟨oc, hoc, I.freeC x c hc⟩ hs, by simpa using I.len⟩ ⟨c, hs, .inr hc⟩
    · exact (hs.2 b (Nat.ne_of_lt (Nat.lt_of_lt_of_le (Heap.lt_size e) (I.ok.cab x c hfn hc)))).trans (I.base.keep b o e n hb hx)
    · obtain ⟨sl, e1⟩ := I.base.slot b o e n hb hx
      exact ⟨sl, (hs.2 b (Nat.ne_of_lt (Nat.lt_of_lt_of_le (Heap.lt_size e) (I.ok.cab x c hfn hc)))).trans e1⟩
    · obtain ⟨o', e1⟩ := I.base.there b o e hx
      exact ⟨o', (hs.2 b (Nat.ne_of_lt (Nat.lt_of_lt_of_le (Heap.lt_size e) (I.ok.cab x c hfn hc)))).trans e1⟩
    · by_cases hj : j = i
      · subst hj
        rw [hi] at e1; cases e1
        rw [List.getElem?_set_self hiσ] at e2
        cases e2
        exact ⟨u, r, .inr ⟨.inl hk, c, hc, hc'⟩⟩
      · rw [List.getElem?_set_ne (Ne.symm hj)] at e2
        obtain ⟨u', r', q⟩ := hl j y v' e1 e2 e3
        refine ⟨u', r', ?_⟩
        rcases q with q | ⟨k, c', e, z'⟩
        · exact .inl q
        · refine .inr ⟨k, c', e, z'.sameBut hs ?_⟩
          rintro rfl
          exact hj (nodup_ix hN e1 (I.ok.inj _ _ _ e hc ▸ hi))
    · by_cases hcc : c' = c
      · subst hcc; exact ⟨_, hc'⟩
      · obtain ⟨w2, z2⟩ := I.cell y c' e
        exact ⟨w2, z2.sameBut hs hcc⟩
    · obtain ⟨e, n, ne, nf, d⟩ := I.pin p hp
      refine ⟨(hs.2 p.1 ?_).trans e, n, ne, nf, d⟩
      intro q
      rw [q, hoc] at e
      have q' : oc = p.2 := Option.some.inj e
      exact d w' (by rw [← q']; exact hocd)
theorem store_ok {M : Model} {A : Around} {E : Value → Shared → Prop} {i : Nat} {x : Str} {v : V} {u : Value} {Q : Unit → Shared → Prop} (I : Inv X pins σ H s) (hN : X.N.Nodup) (hi : X.N[i]? = some x) (hx : Loc X.env.scope x) (r : RelV v u)
    (h : ∀ s', Inv X pins (σ.set i (some v)) H s' → Q () s') (hf : X.fn x = true ∨ X.env.scope.names.lookup x = some .local := by first | exact .inl rfl | exact .inr rfl | assumption) : wpAny M A (storeName X.env x u) Q E s :=
  store_ok2 I hN hi hx r (fun s' I' _ => h s' I') hf
/-- behind a call or a block, the state as it is -/
theorem Inv.call' {s' : Shared} {ch : List Addr} (I : Inv X pins σ H s) (ho : s'.os = s.os) (u : Un (frs X.stack) ch H H' s.heap s'.heap) (hok : HOk X.prog X.w H' s'.heap) (hg : AllBare s'.gens)
    (hch : ∀ b ∈ ch, (b ∈ X.ex ∨ X.s₀.heap.objs.size ≤ b) ∧ b ≠ X.env.locals ∧ (∀ x c, X.env.cells.lookup x = some c → c ≠ b) ∧ ∀ p ∈ X.pn ++ pins, p.1 ≠ b) : Inv X pins σ H' s' := by
  obtain ⟨h', g', d', t', o'⟩ := s'
  have e : o' = s.os := ho
  subst e
  exact I.call (g' := g') (t' := t') (d' := d') u hok hg hch
end

/-! ### the judgements -/
/-- an exception: its class, its own dict's address (where it has one), the abstract heap behind it -/
abbrev XK := Value → Option Addr → Hp → Prop
abbrev St := List (Option V)
abbrev VK := V → Hp → Prop
/-- an expression's reading; a test's; an argument list's -/
abbrev TE := St → Hp → VK → Prop
abbrev TT := St → Hp → (Bool → Hp → Prop) → Prop
abbrev TA := St → Hp → (List V → Hp → Prop) → Prop
/-- what is wanted behind a statement -/
structure Ends where
  nx : St → Hp → Prop
  rt : VK
  bk : St → Hp → Prop := fun _ _ => False
  ct : St → Hp → Prop := fun _ _ => False
abbrev TS := Ends → St → Hp → Prop

def EP (X : Cx) (pins : List (Addr × Obj)) (σ : St) (Q : VK) (u : Value) (s' : Shared) : Prop := ∃ v H', Inv X pins σ H' s' ∧ RelV v u ∧ Q v H'
def TP (X : Cx) (pins : List (Addr × Obj)) (σ : St) (Q : Bool → Hp → Prop) (b : Bool) (s' : Shared) : Prop := ∃ H', Inv X pins σ H' s' ∧ Q b H'
def AP (X : Cx) (pins : List (Addr × Obj)) (σ : St) (Q : List V → Hp → Prop) (us : List Value) (s' : Shared) : Prop := ∃ vs H', Inv X pins σ H' s' ∧ Vals vs us ∧ Q vs H'
def SP (X : Cx) (pins : List (Addr × Obj)) (D : Ends) (f : Flow) (s' : Shared) : Prop :=
  match f with
  | .next => ∃ σ' H', Inv X pins σ' H' s' ∧ D.nx σ' H'
  | .brk => ∃ σ' H', Inv X pins σ' H' s' ∧ D.bk σ' H'
  | .cont => ∃ σ' H', Inv X pins σ' H' s' ∧ D.ct σ' H'
  | .ret u => ∃ v σ' H', Inv X pins σ' H' s' ∧ RelV v u ∧ D.rt v H'

def PE (X : Cx) (e : Expr) (t : TE) : Prop :=
  ∀ (pins : List (Addr × Obj)) (s : Shared) (σ : St) (H : Hp) (Q : VK), Inv X pins σ H s → t σ H Q → wpAny (model X.prog X.w) X.A (eval e X.env) (EP X pins σ Q) X.xe s
def PT (X : Cx) (e : Expr) (t : TT) : Prop :=
  ∀ (pins : List (Addr × Obj)) (s : Shared) (σ : St) (H : Hp) (Q : Bool → Hp → Prop), Inv X pins σ H s → t σ H Q → wpAny (model X.prog X.w) X.A (isTrue e X.env (eval e X.env)) (TP X pins σ Q) X.xe s
/-- a test whatever its 'whole' is (and, or) -/
def PW (X : Cx) (e : Expr) (t : TT) : Prop :=
  ∀ (whole : Sem Value) (pins : List (Addr × Obj)) (s : Shared) (σ : St) (H : Hp) (Q : Bool → Hp → Prop), Inv X pins σ H s → t σ H Q → wpAny (model X.prog X.w) X.A (isTrue e X.env whole) (TP X pins σ Q) X.xe s
theorem PW.pt {X : Cx} {e : Expr} {t : TT} (h : PW X e t) : PT X e t := h _
/-- an argument list (no star), from the left -/
def PA (X : Cx) (es : List Expr) (t : TA) : Prop :=
  ∀ (pos : Pos) (pins : List (Addr × Obj)) (s : Shared) (σ : St) (H : Hp) (Q : List V → Hp → Prop), Inv X pins σ H s → t σ H Q → wpAny (model X.prog X.w) X.A (spliced (backTo pos (starEach es X.env))) (AP X pins σ Q) X.xe s
def PS (X : Cx) (st : Stmt) (t : TS) : Prop :=
  ∀ (pins : List (Addr × Obj)) (s : Shared) (σ : St) (H : Hp) (D : Ends), Inv X pins σ H s → t D σ H → wpAny (model X.prog X.w) X.A (exec st X.env) (SP X pins D) X.xe s
def PSs (X : Cx) (st : List Stmt) (t : TS) : Prop :=
  ∀ (pins : List (Addr × Obj)) (s : Shared) (σ : St) (H : Hp) (D : Ends), Inv X pins σ H s → t D σ H → wpAny (model X.prog X.w) X.A (execs st X.env) (SP X pins D) X.xe s
/-- weaken the end -/
theorem thn {α : Type} {t : Sem α} {Q Q' : α → Shared → Prop} {M : Model} {A : Around} {E : Value → Shared → Prop} {s : Shared} (h : wpAny M A t Q E s) (hQ : ∀ a s, Q a s → Q' a s) : wpAny M A t Q' E s := wpAny_mono h hQ fun _ _ x => x
end L2

namespace L2
open PySem PySem.Spec PyProof.Rows
section
variable {X : Cx}

/-! ### names and constants -/
def tVar (i : Nat) : TE := fun σ H Q => ∃ v, σ[i]? = some (some v) ∧ Q v H
def tC (v : V) : TE := fun _ H Q => Q v H
theorem pe_var {i : Nat} {x : Str} {pos : Pos} (hN : X.N[i]? = some x) (hv : Vis X.env.scope x) (hd : (x == ("__debug__" : Str)) = false := by decide) (hcd : (x == ("__classdict__" : Str)) = false := by decide) : PE X (.Name x pos) (tVar i) := by
  intro pins s σ H Q I h
  obtain ⟨v, e, h⟩ := h
  obtain ⟨m, hn, hl⟩ := I.loc
  obtain ⟨u, r, l⟩ := hl i x v hN e hv
  have fin : EP X pins σ Q u s := ⟨v, H, I, r, h⟩
  rcases l with ⟨hk, hm⟩ | ⟨hk, c, hc, hcell⟩
  · exact wpAny_Name (wpAny_loadName_local I.ok.kind hk hn hm fin) hd
  · rcases hk with hk | hk
    · exact wpAny_Name (wpAny_loadName_cell I.ok.kind hk hc hcell fin) hd
    · exact wpAny_Name (wpAny_loadName_free I.ok.kind hk hc hcell fin hcd) hd
theorem pe_int {i j pos} : PE X (.Constant (.int i) j pos) (tC (.int i)) := fun _ _ _ H _ I h => wpAny_Constant_int ⟨.int i, H, I.tok _, ⟨_, rfl⟩, h⟩
theorem pe_bl {b j pos} : PE X (.Constant (.bool b) j pos) (tC (.bl b)) := fun _ _ _ H _ I h => Constant_bool ⟨.bl b, H, I, rfl, h⟩
theorem pe_non {j pos} : PE X (.Constant .none j pos) (tC .non) := fun _ _ _ H _ I h => Constant_none ⟨.non, H, I, rfl, h⟩
theorem pe_str {x j pos} : PE X (.Constant (.str x) j pos) (tC (.str x)) := fun _ _ _ H _ I h => Calls.Constant_str ⟨.str x, H, I.tok _, ⟨_, rfl⟩, h⟩

/-- a global name of the def -/
def Gl (X : Cx) (x : Str) : Prop := X.env.kindOf x = some .globalImplicit
theorem ld_glob {E : Value → Shared → Prop} {pins : List (Addr × Obj)} {s : Shared} {σ : St} {H : Hp} {x : Str} {u : Value} {pos : Pos} {Q : Value → Shared → Prop} (I : Inv X pins σ H s) (hg : Gl X x) (hm : X.mg x = some u) (h : Q u s)
    (hd : (x == ("__debug__" : Str)) = false := by decide) : wpAny (model X.prog X.w) X.A (eval (.Name x pos) X.env) Q E s :=
  Calls.Name_function_global I.ok.kind hg (Calls.loadGlobal_global (by rw [I.ok.glob]; exact I.mod.glob.keeps I.bk) hm h) hd
theorem ld_blt {E : Value → Shared → Prop} {pins : List (Addr × Obj)} {s : Shared} {σ : St} {H : Hp} {x : Str} {u : Value} {pos : Pos} {Q : Value → Shared → Prop} (I : Inv X pins σ H s) (hg : Gl X x) (hm : X.mg x = none) (hv : bootBuiltins x = some u) (h : Q u s)
    (hn : x ≠ "__name__" := by decide) (hd : (x == ("__debug__" : Str)) = false := by decide) : wpAny (model X.prog X.w) X.A (eval (.Name x pos) X.env) Q E s := by
  obtain ⟨mb, h1, h2⟩ := I.mod.blt
  exact Calls.Name_function_global I.ok.kind hg (Calls.loadGlobal_builtin (by rw [I.ok.glob]; exact I.mod.glob.keeps I.bk) hm (by rw [I.ok.blt]; exact h1.keeps I.bk) ((h2 x hn).trans hv) h) hd
/-- a module's constant, a class, a function, as a value -/
theorem pe_glob {x : Str} {v : V} {u : Value} {pos : Pos} (hg : Gl X x) (hm : X.mg x = some u) (r : RelV v u) (hd : (x == ("__debug__" : Str)) = false := by decide) : PE X (.Name x pos) (tC v) :=
  fun _ _ _ H _ I h => ld_glob I hg hm ⟨v, H, I, r, h⟩ hd
theorem pe_bltn {x : Str} {v : V} {u : Value} {pos : Pos} (hg : Gl X x) (hm : X.mg x = none) (hv : bootBuiltins x = some u) (r : RelV v u) (hn : x ≠ "__name__" := by decide) (hd : (x == ("__debug__" : Str)) = false := by decide) : PE X (.Name x pos) (tC v) :=
  fun _ _ _ H _ I h => ld_blt I hg hm hv ⟨v, H, I, r, h⟩ hn hd

/-! ### arithmetic -/
variable {a b : Expr} {ta tb : TE} {pos : Pos}
/-! ### comparisons -/
/-- a comparison as a value, as a test -/
def tB (t : TE) : TT := fun σ H Q => t σ H fun x H1 => ∃ c, x = .bl c ∧ Q c H1
/-- an expression whose value is a bool, as a test -/
theorem pt_val {e : Expr} {t : TE} (h : PE X e t) (he : ∀ whole, isTrue e X.env whole = (do let v ← whole; standAt e.pos; holding [v] (truthy v)) := by intro _; rfl) : PT X e (tB t) := by
  intro pins s σ H Q I hw
  refine isTrue_plain (thn (h pins s σ H _ I hw) fun v s1 ⟨x, H1, I1, r1, q1⟩ => ?_) (he _)
  obtain ⟨d, rfl, q⟩ := q1
  cases r1
  exact wpAny_truthy_bool ⟨H1, I1, q⟩

/-! ### and, or, not -/
variable {tA tB' : TT} {rest : List Expr}
def tAnd (t u : TT) : TT := fun σ H Q => t σ H fun c H1 => if c = true then u σ H1 Q else Q false H1
def tOr (t u : TT) : TT := fun σ H Q => t σ H fun c H1 => if c = true then Q true H1 else u σ H1 Q
def tNot (t : TT) : TT := fun σ H Q => t σ H fun c H1 => Q (!c) H1
theorem pw_and1 (ha : PT X a tA) : PW X (.BoolOp .And [a] pos) tA := by
  intro wh pins s σ H Q I h
  refine isTrue_and (thn (ha pins s σ H Q I h) fun c s1 e => ?_)
  cases c with
  | true => exact isTrue_and_nil e
  | false => exact e
theorem pw_or1 (ha : PT X a tA) : PW X (.BoolOp .Or [a] pos) tA := by
  intro wh pins s σ H Q I h
  refine isTrue_or (thn (ha pins s σ H Q I h) fun c s1 e => ?_)
  cases c with
  | false => exact isTrue_or_nil e
  | true => exact e
theorem pw_and (ha : PT X a tA) (hb : PW X (.BoolOp .And (b :: rest) pos) tB') : PW X (.BoolOp .And (a :: b :: rest) pos) (tAnd tA tB') := by
  intro wh pins s σ H Q I h
  refine isTrue_and (thn (ha pins s σ H _ I h) fun c s1 ⟨H1, I1, q1⟩ => ?_)
  cases c with
  | true => exact hb wh pins s1 σ H1 Q I1 q1
  | false => exact ⟨H1, I1, q1⟩
theorem pw_or (ha : PT X a tA) (hb : PW X (.BoolOp .Or (b :: rest) pos) tB') : PW X (.BoolOp .Or (a :: b :: rest) pos) (tOr tA tB') := by
  intro wh pins s σ H Q I h
  refine isTrue_or (thn (ha pins s σ H _ I h) fun c s1 ⟨H1, I1, q1⟩ => ?_)
  cases c with
  | true => exact ⟨H1, I1, q1⟩
  | false => exact hb wh pins s1 σ H1 Q I1 q1
theorem pt_not (ha : PT X a tA) : PT X (.UnaryOp .Not a pos) (tNot tA) := by
  intro pins s σ H Q I h
  exact isTrue_not (ha pins s σ H (fun c H1 => Q (!c) H1) I h)
/-- .. as values (bools) -/
def tAndV (ta tb : TE) : TE := fun σ H Q => ta σ H fun x H1 => ∃ c, x = .bl c ∧ if c = true then tb σ H1 Q else Q (.bl false) H1
def tNotV (ta : TE) : TE := fun σ H Q => ta σ H fun x H1 => ∃ c, x = .bl c ∧ Q (.bl (!c)) H1
theorem pe_one {op} {t : TE} (h : PE X a t) : PE X (.BoolOp op [a] pos) t := fun pins s σ H Q I hw => BoolOp_one (h pins s σ H Q I hw)
theorem pe_and (ha : PE X a ta) (hb : PE X (.BoolOp .And (b :: rest) pos) tb) : PE X (.BoolOp .And (a :: b :: rest) pos) (tAndV ta tb) := by
  intro pins s σ H Q I h
  refine BoolOp_and (thn (ha pins s σ H _ I h) fun v s1 ⟨x, H1, I1, r1, q1⟩ => ?_)
  obtain ⟨c, rfl, q1⟩ := q1
  cases r1
  refine wpAny_truthy_bool ?_
  cases c with
  | true => exact hb pins s1 σ H1 Q I1 q1
  | false => exact ⟨.bl false, H1, I1, rfl, q1⟩
theorem pe_not (ha : PE X a ta) : PE X (.UnaryOp .Not a pos) (tNotV ta) := by
  intro pins s σ H Q I h
  refine UnaryOp_ (thn (ha pins s σ H _ I h) fun v s1 ⟨x, H1, I1, r1, q1⟩ => ?_)
  obtain ⟨c, rfl, q1⟩ := q1
  cases r1
  exact not_of (wpAny_truthy_bool ⟨.bl (!c), H1, I1, rfl, q1⟩)
/-- a if t else b -/
def tIf (t : TT) (ta tb : TE) : TE := fun σ H Q => t σ H fun c H1 => if c = true then ta σ H1 Q else tb σ H1 Q
theorem pe_ifExp {c : Expr} (hc : PT X c tA) (ha : PE X a ta) (hb : PE X b tb) : PE X (.IfExp c a b pos) (tIf tA ta tb) := by
  intro pins s σ H Q I h
  refine wpAny_IfExp (thn (hc pins s σ H _ I h) fun d s1 ⟨H1, I1, q1⟩ => ?_)
  cases d with
  | true => exact ha pins s1 σ H1 Q I1 q1
  | false => exact hb pins s1 σ H1 Q I1 q1
end
end L2

namespace L2
open PySem PySem.Spec PyProof.Rows

/-! ### a list, a tuple that is read: tracked, frozen, or an object of the module -/
def SqL (K : PySem.W.Frag) (H : Hp) (a : Addr) (xs : List V) : Prop :=
  Rd H a (.lst xs) ∨
    ∃ (o : Obj) (its : Array Value) (n : Nat), K.lookup a = some o ∧ o.cls = .type "list" ∧ o.dict = none ∧ o.data = .seq its n ∧ its.size ≤ sizeLine ∧ Vals xs its.toList
def SqT (K : PySem.W.Frag) (H : Hp) (a : Addr) (xs : List V) : Prop :=
  Rd H a (.tup xs) ∨
    ∃ (o : Obj) (its : Array Value) (n : Nat), K.lookup a = some o ∧ o.cls = .type "tuple" ∧ o.data = .seq its n ∧ its.size ≤ sizeLine ∧ Vals xs its.toList
def absV : Value → Option V
  | .none => some .non
  | .bool b => some (.bl b)
  | .int i _ => some (.int i)
  | .str x _ => some (.str x)
  | .bytes b _ => some (.byt b)
  | .float b _ => some (.flt b)
  | .ref a => some (.ref a)
  | .type n => some (.ty n)
  | _ => none
theorem RelV.abs {x : V} {u : Value} (r : RelV x u) : absV u = some x := by
  cases x with
  | non => cases r; rfl
  | bl _ => cases r; rfl
  | int _ => obtain ⟨t, rfl⟩ := r; rfl
  | str _ => obtain ⟨t, rfl⟩ := r; rfl
  | byt _ => obtain ⟨t, rfl⟩ := r; rfl
  | flt _ => obtain ⟨t, rfl⟩ := r; rfl
  | ref _ => cases r; rfl
  | ty _ => cases r; rfl
theorem RelV.inj {x y : V} {u : Value} (r : RelV x u) (q : RelV y u) : x = y := Option.some.inj (r.abs.symm.trans q.abs)
theorem Vals.inj : ∀ {xs ys : List V} {us : List Value}, Vals xs us → Vals ys us → xs = ys
  | _, _, _, .nil, .nil => rfl
  | _, _, _, .cons r t, .cons r' t' => by rw [r.inj r', Vals.inj t t']
section
variable {X : Cx} {pins : List (Addr × Obj)} {σ : St} {H : Hp} {s : Shared} {a : Addr} {xs ys : List V}
theorem Inv.list (I : Inv X pins σ H s) (h : SqL X.K H a xs) : ∃ its : List Value, Vals xs its ∧ PlainL s.heap a its.toArray ∧ xs.length ≤ sizeLine := by
  rcases h with h | ⟨o, its, n, hk, hc, hd, hs, hz, r⟩
  · obtain ⟨z, its, n, r, e⟩ := h.ok I.hok
    exact ⟨its, r, ⟨_, n, e, rfl, rfl, rfl⟩, z⟩
  · refine ⟨its.toList, r, ⟨o, n, I.kIn a o hk, hc, hd, by simpa using hs⟩, ?_⟩
    have e := r.length
    simp only [Array.length_toList] at e
    omega
theorem Inv.tuple (I : Inv X pins σ H s) (h : SqT X.K H a xs) : ∃ its : List Value, Vals xs its ∧ IsTup s.heap a its.toArray ∧ xs.length ≤ sizeLine := by
  rcases h with h | ⟨o, its, n, hk, hc, hs, hz, r⟩
  · obtain ⟨z, its, r, p⟩ := h.ok I.hok
    exact ⟨its, r, p, z⟩
  · refine ⟨its.toList, r, ⟨o, I.kIn a o hk, hc, n, by simpa using hs⟩, ?_⟩
    have e := r.length
    simp only [Array.length_toList] at e
    omega
theorem Inv.list_inj (I : Inv X pins σ H s) (h : SqL X.K H a xs) (h' : SqL X.K H a ys) : xs = ys := by
  obtain ⟨its, r, ⟨o, n, e, _, _, d⟩, _⟩ := I.list h
  obtain ⟨its', r', ⟨o', n', e', _, _, d'⟩, _⟩ := I.list h'
  rw [e] at e'; cases e'
  rw [d] at d'
  injection d' with d1 _
  have : its = its' := by simpa using congrArg Array.toList d1
  subst this
  exact r.inj r'
end

/-! ### another wish about exceptions -/
abbrev Cx.wish (X : Cx) (E : Value → Shared → Prop) : Cx := { X with xe := E }
/-- no exception leaves -/
abbrev Cx.nox (X : Cx) : Cx := X.wish fun _ _ => False
theorem Cx.Ok.wish {X : Cx} (ok : X.Ok) (E : Value → Shared → Prop) : (X.wish E).Ok :=
  ⟨ok.mod, ok.kind, ok.glob, ok.blt, ok.above, ok.inj, ok.has, ok.cab, ok.hd, ok.frames, ok.stk, ok.exf, ok.bs, ok.bsz, ok.noex, ok.exfs, ok.funs, ok.frf⟩
theorem Cx.Ok.unwish {X : Cx} {E : Value → Shared → Prop} (ok : (X.wish E).Ok) : X.Ok :=
  ⟨ok.mod, ok.kind, ok.glob, ok.blt, ok.above, ok.inj, ok.has, ok.cab, ok.hd, ok.frames, ok.stk, ok.exf, ok.bs, ok.bsz, ok.noex, ok.exfs, ok.funs, ok.frf⟩
section
variable {X : Cx} {pins : List (Addr × Obj)} {σ : St} {H : Hp} {s : Shared} {E : Value → Shared → Prop}
theorem Inv.wish (I : Inv X pins σ H s) (E : Value → Shared → Prop) : Inv (X.wish E) pins σ H s := ⟨I.ok.wish E, I.os, I.bare, I.base, I.loc, I.cell, I.free, I.freeC, I.pin, I.hok, I.len⟩
theorem Inv.unwish (I : Inv (X.wish E) pins σ H s) : Inv X pins σ H s := ⟨I.ok.unwish, I.os, I.bare, I.base, I.loc, I.cell, I.free, I.freeC, I.pin, I.hok, I.len⟩
theorem SP.unwish {D : Ends} {f : Flow} {s' : Shared} (h : SP (X.wish E) pins D f s') : SP X pins D f s' := by
  cases f with
  | next => obtain ⟨σ', H', I, q⟩ := h; exact ⟨σ', H', I.unwish, q⟩
  | brk => obtain ⟨σ', H', I, q⟩ := h; exact ⟨σ', H', I.unwish, q⟩
  | cont => obtain ⟨σ', H', I, q⟩ := h; exact ⟨σ', H', I.unwish, q⟩
  | ret u => obtain ⟨v, σ', H', I, r, q⟩ := h; exact ⟨v, σ', H', I.unwish, r, q⟩
theorem PSs.nox {st : List Stmt} {t : TS} (h : PSs X.nox st t) : PSs X st t := fun pins s σ H D I hw =>
  wpAny_mono (h pins s σ H D (I.wish _) hw) (fun _ _ q => q.unwish) fun _ _ z => False.elim z
end

/-! ### blocks and small statements -/
section
variable {X : Cx} {st : Stmt} {rest : List Stmt} {t u : TS} {e : Expr} {te : TE} {pos : Pos}
def tNext : TS := fun D σ H => D.nx σ H
def tSeq (t u : TS) : TS := fun D σ H => t { D with nx := u D } σ H
theorem pss_nil : PSs X [] tNext := fun _ _ σ H _ I h => wpAny_execs_nil ⟨σ, H, I, h⟩
theorem pss_cons (h1 : PS X st t) (h2 : PSs X rest u) : PSs X (st :: rest) (tSeq t u) := by
  intro pins s σ H D I h
  refine wpAny_execs_cons (thn (h1 pins s σ H { D with nx := u D } I h) fun f s1 q => ?_)
  cases f with
  | next =>
    obtain ⟨σ', H', I', q⟩ := q
    exact h2 pins s1 σ' H' D I' q
  | ret v => exact q
  | brk => exact q
  | cont => exact q
theorem pss_one (h1 : PS X st t) : PSs X [st] t := by
  intro pins s σ H D I h
  refine wpAny_execs_cons (thn (h1 pins s σ H D I h) fun f s1 q => ?_)
  cases f with
  | next => exact wpAny_execs_nil q
  | ret v => exact q
  | brk => exact q
  | cont => exact q
/-- in a def's body nothing is shown -/
theorem Inv.quiet {pins : List (Addr × Obj)} {σ : St} {H : Hp} {s : Shared} (I : Inv X pins σ H s) : interactive X.env = false := by simp [interactive, I.ok.kind]
/-- an expression whose value is dropped -/
def tDrop (te : TE) : TS := fun D σ H => te σ H fun _ H1 => D.nx σ H1
theorem ps_expr (he : PE X e te) (hs : swapsWith e none pos.line X.env = pure false := by rfl) : PS X (.Expr e pos) (tDrop te) := by
  intro pins s σ H D I h
  exact wpAny_Expr_any (thn (he pins s σ H _ I h) fun v s1 ⟨x, H1, I1, r1, q1⟩ => ⟨σ, H1, I1, q1⟩) I.quiet hs
def tRet (te : TE) : TS := fun D σ H => te σ H D.rt
theorem ps_ret (he : PE X e te) : PS X (.Return (some e) pos) (tRet te) := by
  intro pins s σ H D I h
  exact wpAny_Return_some (thn (he pins s σ H _ I h) fun v s1 ⟨x, H1, I1, r1, q1⟩ => ⟨x, σ, H1, I1, r1, q1⟩)
def tIfS (c : TT) (t u : TS) : TS := fun D σ H => c σ H fun b H1 => if b = true then t D σ H1 else u D σ H1
theorem ps_if {c : Expr} {a b : List Stmt} {tc : TT} (hc : PT X c tc) (ha : PSs X a t) (hb : PSs X b u) : PS X (.If c a b pos) (tIfS tc t u) := by
  intro pins s σ H D I h
  refine wpAny_If (thn (hc pins s σ H _ I h) fun d s1 ⟨H1, I1, q1⟩ => ?_)
  cases d with
  | true => exact ha pins s1 σ H1 D I1 q1
  | false => exact hb pins s1 σ H1 D I1 q1
end

/-! ### targets -/
abbrev TG := V → St → Hp → (St → Hp → Prop) → Prop
abbrev TGs := List V → St → Hp → (St → Hp → Prop) → Prop
def PG (X : Cx) (target : Expr) (t : TG) : Prop :=
  ∀ (pins : List (Addr × Obj)) (s : Shared) (σ : St) (H : Hp) (v : V) (u : Value) (Q : St → Hp → Prop), Inv X pins σ H s → RelV v u → t v σ H Q →
    wpAny (model X.prog X.w) X.A (assign target X.env u) (fun _ s' => ∃ σ' H', Inv X pins σ' H' s' ∧ Q σ' H') X.xe s
/-- several targets, one after another -/
def PGs (X : Cx) (ts : List Expr) (t : TGs) : Prop :=
  ∀ (pins : List (Addr × Obj)) (s : Shared) (σ : St) (H : Hp) (vs : List V) (us : List Value) (Q : St → Hp → Prop), Inv X pins σ H s → Vals vs us → t vs σ H Q →
    wpAny (model X.prog X.w) X.A (assignInOrder ((assignEach ts X.env).map (·.2)) us) (fun _ s' => ∃ σ' H', Inv X pins σ' H' s' ∧ Q σ' H') X.xe s
/-- o[i] = v, by values -/
abbrev TSet := V → V → V → Hp → (Hp → Prop) → Prop
def PSet (X : Cx) (t : TSet) : Prop :=
  ∀ (pins : List (Addr × Obj)) (s : Shared) (σ : St) (H : Hp) (o i v : V) (ov iv u : Value) (Q : Hp → Prop), Inv X pins σ H s → RelV o ov → RelV i iv → RelV v u → t o i v H Q →
    wpAny (model X.prog X.w) X.A (setItem ov iv u) (fun _ s' => ∃ H', Inv X pins σ H' s' ∧ Q H') X.xe s
section
variable {X : Cx} {pos : Pos}
def gName (i : Nat) : TG := fun v σ H Q => Q (σ.set i (some v)) H
theorem pg_name {i : Nat} {x : Str} (hN : X.N.Nodup) (hi : X.N[i]? = some x) (hx : Loc X.env.scope x) (hf : X.fn x = true ∨ X.env.scope.names.lookup x = some .local := by first | exact .inl rfl | exact .inr rfl | assumption) : PG X (.Name x pos) (gName i) := by
  intro pins s σ H v u Q I r h
  exact wpAny_assign_Name (store_ok I hN hi hx r (fun s' I' => ⟨_, H, I', h⟩) hf)
def gNil : TGs := fun vs σ H Q => vs = [] ∧ Q σ H
def gCons (t : TG) (u : TGs) : TGs := fun vs σ H Q => ∃ v r, vs = v :: r ∧ t v σ H fun σ' H' => u r σ' H' Q
theorem pgs_nil : PGs X [] gNil := by
  intro pins s σ H vs us Q I r h
  obtain ⟨e, h⟩ := h
  subst e
  cases r
  exact assignInOrder_nil ⟨σ, H, I, h⟩
theorem pgs_cons {e : Expr} {es : List Expr} {t : TG} {u : TGs} (h1 : PG X e t) (h2 : PGs X es u)
    (hs : (assignEach (e :: es) X.env).map (·.2) = assign e X.env :: (assignEach es X.env).map (·.2) := by rfl) : PGs X (e :: es) (gCons t u) := by
  intro pins s σ H vs us Q I r h
  obtain ⟨v, vr, e1, h⟩ := h
  subst e1
  cases r with
  | cons r rr =>
    rw [hs]
    refine assignInOrder_cons (thn (h1 pins s σ H _ _ _ I r h) fun _ s1 ⟨σ1, H1, I1, q1⟩ => ?_)
    exact h2 pins s1 σ1 H1 _ _ Q I1 rr q1
/-- o[i] = .. -/
def gSub (to ti : TE) (t : TSet) : TG := fun v σ H Q => to σ H fun o H1 => ti σ H1 fun i H2 => t o i v H2 fun H3 => Q σ H3
theorem pg_sub {o i : Expr} {to ti : TE} {t : TSet} (ho : PE X o to) (hi : PE X i ti) (hs : PSet X t)
    (ha : ∀ v, assign (.Subscript o i pos) X.env v = (do
      let ov ← holding [v] (eval o X.env)
      let iv ← holding [v, ov] (eval i X.env)
      standAt pos
      holding [v, ov, iv] (setItem ov iv v)
      release [v, ov, iv] []) := by intro _; rfl) : PG X (.Subscript o i pos) (gSub to ti t) := by
  intro pins s σ H v u Q I r h
  rw [ha]
  refine wpAny_bind (wpAny_holding (thn (ho pins s σ H _ I h) fun ov s1 ⟨x, H1, I1, r1, q1⟩ => ?_))
  refine wpAny_bind (wpAny_holding (thn (hi pins s1 σ H1 _ I1 q1) fun iv s2 ⟨y, H2, I2, r2, q2⟩ => ?_))
  refine wpAny_bind (wpAny_standAt (wpAny_bind (wpAny_holding (thn (hs pins s2 σ H2 x y v ov iv u _ I2 r1 r2 r q2) fun _ s3 ⟨H3, I3, q3⟩ => ?_))))
  exact wpAny_release ⟨σ, H3, I3, q3⟩
/-- target = value -/
def tAsg (te : TE) (g : TG) : TS := fun D σ H => te σ H fun x H1 => g x σ H1 D.nx
theorem ps_asg {tg e : Expr} {te : TE} {g : TG} (he : PE X e te) (hg : PG X tg g) (hs : swapsWithSole [tg] e pos.line X.env = pure false := by rfl) (hw : swappedStores [tg] e X.env = pure none := by rfl)
    (h1 : (assignEach [tg] X.env).map (·.2) = [assign tg X.env] := by rfl) : PS X (.Assign [tg] e pos) (tAsg te g) := by
  intro pins s σ H D I h
  refine wpAny_Assign_stores (thn (he pins s σ H _ I h) fun v s1 ⟨x, H1, I1, r1, q1⟩ => ?_) hs hw
  rw [h1]
  exact thn (hg pins s1 σ H1 x v _ I1 r1 q1) fun _ s2 q => q
/-- name = value -/
theorem ps_set {i : Nat} {x : Str} {e : Expr} {te : TE} {pos' : Pos} (hN : X.N.Nodup) (hi : X.N[i]? = some x) (hx : Loc X.env.scope x) (he : PE X e te) (hs : swapsWith e (some (.Name x pos')) pos.line X.env = pure false := by rfl) (hf : X.fn x = true ∨ X.env.scope.names.lookup x = some .local := by first | exact .inl rfl | exact .inr rfl | assumption) :
    PS X (.Assign [.Name x pos'] e pos) (tAsg te (gName i)) := by
  intro pins s σ H D I h
  refine wpAny_Assign_Name (thn (he pins s σ H _ I h) fun v s1 ⟨y, H1, I1, r1, q1⟩ => ?_) hs
  exact store_ok I1 hN hi hx r1 (fun s2 I2 => ⟨_, H1, I2, q1⟩) hf
end

/-! ### while -/
section
variable {X : Cx} {pos : Pos}
/-- the invariant W with its measure -/
def tWhile (c : TT) (tb : TS) : TS := fun D σ H => ∃ W : Nat → St → Hp → Prop, (∃ m, W m σ H) ∧ ∀ m σ H, W m σ H →
  c σ H fun b H1 => if b = true then ∃ N : St → Hp → Prop, (∀ σ' H', N σ' H' → ∃ m', m' < m ∧ W m' σ' H') ∧ tb { D with nx := N, ct := N, bk := D.nx } σ H1 else D.nx σ H1
theorem ps_while {c : Expr} {body : List Stmt} {tc : TT} {tb : TS} (hp : PassesOwn (model X.prog X.w) X.A X.env X.xe) (hc : PT X c tc) (hb : PSs X body tb) : PS X (.While c body [] pos) (tWhile tc tb) := by
  intro pins s σ H D I h
  obtain ⟨W, ⟨m0, w0⟩, turn⟩ := h
  refine wpAny_While (codeAny_whileLoop (fun n s' => ∃ σ' H', Inv X pins σ' H' s' ∧ W n σ' H') ?_ m0 ⟨σ, H, I, w0⟩)
  rintro n s1 ⟨σ1, H1, I1, w1⟩
  refine wpAny_passesOwn hp (thn (hc pins s1 σ1 H1 _ I1 (turn n σ1 H1 w1)) fun b s2 ⟨H2, I2, q2⟩ => ?_)
  cases b with
  | true =>
    obtain ⟨N, hN, q2⟩ := q2
    rw [if_pos rfl]
    refine wpAny_passesOwn hp (thn (hb pins s2 σ1 H2 _ I2 q2) fun f s3 q3 => ?_)
    cases f with
    | next =>
      obtain ⟨σ3, H3, I3, n3⟩ := q3
      obtain ⟨m', hm, w3⟩ := hN σ3 H3 n3
      exact ⟨m', hm, σ3, H3, I3, w3⟩
    | cont =>
      obtain ⟨σ3, H3, I3, n3⟩ := q3
      obtain ⟨m', hm, w3⟩ := hN σ3 H3 n3
      exact ⟨m', hm, σ3, H3, I3, w3⟩
    | brk => exact q3
    | ret v => exact q3
  | false =>
    rw [if_neg Bool.false_ne_true]
    exact wpAny_execs_nil ⟨σ1, H2, I2, q2⟩
end

/-! ### what a loop or a comprehension walks -/
/-- at turn i: it yields x (the heap may grow), or it stops -/
structure It where
  go : Nat → Hp → Prop
  yld : Nat → Hp → V → Hp → Prop
  stop : Nat → Hp → Prop
/-- the iterator's own objects may turn: they are not the frame's, not pinned, younger than the entry (or a comprehension's own) -/
def FpOk (X : Cx) (pins : List (Addr × Obj)) (H : Hp) (b : Addr) : Prop :=
  H b = none ∧ b ≠ X.env.locals ∧ b ∉ X.fs ∧ (b ∈ X.ex ∨ X.s₀.heap.objs.size ≤ b) ∧ (∀ x c, X.env.cells.lookup x = some c → c ≠ b) ∧ ∀ p ∈ X.pn ++ pins, p.1 ≠ b
theorem Inv.fpOk {X : Cx} {pins : List (Addr × Obj)} {σ : St} {H H' : Hp} {s : Shared} {b : Addr} (I : Inv X pins σ H s) (hb : s.heap.objs.size ≤ b) (hn : H' b = none) : FpOk X pins H' b := by
  refine ⟨hn, Nat.ne_of_gt (Nat.lt_of_lt_of_le I.lt hb), I.nofs hb, .inr (Nat.le_trans I.sz hb), fun x c e z => ?_, fun p hp z => ?_⟩
  · obtain ⟨v, q⟩ := I.cell x c e
    exact absurd (Nat.lt_of_lt_of_le q.lt (by rw [z]; exact hb)) (Nat.lt_irrefl _)
  · exact absurd (Nat.lt_of_lt_of_le (Heap.lt_size (I.pin p hp).1) (by rw [z]; exact hb)) (Nat.lt_irrefl _)
structure Turn (P : Program) (w : World) (K : PySem.W.Frag) (tg : Expr) (J : It) (fp : List Addr) (it : Addr) (tn : Nat → Heap → Prop) : Prop where
  mem : it ∈ fp
  obj : ∀ i h, tn i h → ∀ b ∈ fp, ∃ o, h.get? b = some o ∧ ∀ v, o.data ≠ .cell v
  keep : ∀ i h h', tn i h → (∀ b ∈ fp, ∀ o, h.get? b = some o → h'.get? b = some o) → tn i h'
  item : ∀ (X : Cx), X.prog = P → X.w = w → X.K = K → X.calm = true → ∀ (i : Nat) (pins : List (Addr × Obj)) (s : Shared) (σ : St) (H : Hp) (E : Value → Shared → Prop), Inv X pins σ H s → (∀ b ∈ fp, FpOk X pins H b) → tn i s.heap → J.go i H →
    wpAny (model P w) X.A (pyNext (.ref it)) (fun r s1 => ∃ u, r = some u ∧
      wpAny (model P w) X.A (letOwnedTupleGo tg (.ref it) u) (fun _ s2 => ∃ x H', Inv X pins σ H' s2 ∧ RelV x u ∧ J.yld i H x H' ∧ tn (i + 1) s2.heap ∧ ∀ b ∈ fp, H' b = none) E s1) E s
  done : ∀ (X : Cx), X.prog = P → X.w = w → X.K = K → X.calm = true → ∀ (i : Nat) (pins : List (Addr × Obj)) (s : Shared) (σ : St) (H : Hp) (E : Value → Shared → Prop), Inv X pins σ H s → (∀ b ∈ fp, FpOk X pins H b) → tn i s.heap → J.stop i H →
    wpAny (model P w) X.A (pyNext (.ref it)) (fun r s1 => r = none ∧ Inv X pins σ H s1) E s
  self : ∀ (A : Around) (i : Nat) (s : Shared) (Q : Value → Shared → Prop) (E : Value → Shared → Prop), tn i s.heap → Q (.ref it) s → wpAny (model P w) A (pyIter (.ref it)) Q E s
abbrev TI := St → Hp → (It → Hp → Prop) → Prop
/-- an iterator has come -/
def PIE (X : Cx) (pins : List (Addr × Obj)) (σ : St) (tg : Expr) (R : It → Hp → Prop) (itv : Value) (s2 : Shared) : Prop :=
  ∃ (it : Addr) (fp : List Addr) (tn : Nat → Heap → Prop) (J : It) (H' : Hp), itv = .ref it ∧ Inv X pins σ H' s2 ∧ Turn X.prog X.w X.K tg J fp it tn ∧ tn 0 s2.heap ∧ (∀ b ∈ fp, FpOk X pins H' b) ∧ R J H'
def PI (X : Cx) (tg iter : Expr) (wi : TI) : Prop :=
  ∀ (pins : List (Addr × Obj)) (s : Shared) (σ : St) (H : Hp) (R : It → Hp → Prop), Inv X pins σ H s → wi σ H R →
    wpAny (model X.prog X.w) X.A (eval iter X.env) (fun v s1 => wpAny (model X.prog X.w) X.A (pyIter v) (PIE X pins σ tg R) X.xe s1) X.xe s

/-- the step ahead of the store is nothing for an iterator that keeps no tuple -/
theorem go_of {M : Model} {A : Around} {E : Value → Shared → Prop} {s : Shared} {tg : Expr} {it : Addr} {u : Value} {o : Obj} {n : String} {vs : Array Value} {Q : Unit → Shared → Prop} (ho : s.heap.get? it = some o) (hc : o.cls = .type n) (hd : o.data = .fields vs)
    (hn : ["enumerate", "zip", "dict_itemiterator", "dict_reverseitemiterator", "odict_iterator", "itertools.zip_longest", "itertools.pairwise"].contains n = false) (hQ : Q () s) : wpAny M A (letOwnedTupleGo tg (.ref it) u) Q E s := by
  unfold letOwnedTupleGo
  cases tg <;> first
    | exact wpAny_pure hQ
    | (cases u <;> first
        | exact wpAny_pure hQ
        | (refine wpAny_bind (wpAny_load ho ?_)
           rw [hc, hd]
           show wpAny M A (if (["enumerate", "zip", "dict_itemiterator", "dict_reverseitemiterator", "odict_iterator", "itertools.zip_longest", "itertools.pairwise"].contains n && vs[0]? == some (rawInt _)) = true then _ else _) Q E s
           rw [if_neg (by intro h; rw [hn, Bool.false_and] at h; cases h)]
           exact wpAny_pure hQ))

/-- the list at a, as it stands at each turn (a loop may append to it) -/
def Itl (K : PySem.W.Frag) (a : Addr) : It :=
  ⟨fun i H => ∃ xs x, SqL K H a xs ∧ xs[i]? = some x, fun i H x H' => H' = H ∧ ∀ xs, SqL K H a xs → xs[i]? = some x, fun i H => ∃ xs, SqL K H a xs ∧ xs.length ≤ i⟩
/-- lo, lo + 1, .. (n of them) -/
def Itr (lo : Int) (n : Nat) : It := ⟨fun i _ => i < n, fun i H x H' => H' = H ∧ x = .int (lo + i), fun i _ => n ≤ i⟩
theorem turn_list {P : Program} {w : World} {K : PySem.W.Frag} {tg : Expr} (a it : Addr) : Turn P w K tg (Itl K a) [it] it (fun i h => h.IsListIter it a i) where
  mem := by simp
  obj := fun i h st b hb => by
    have e : b = it := by simpa using hb
    subst e
    obtain ⟨o, e, c, d⟩ := st
    exact ⟨o, e, fun v z => by rw [d] at z; cases z⟩
  keep := fun i h h' st k => st.at fun o e => k it (by simp) o e
  item := by
    intro X hP hw hK hc i pins s σ H E I hf st hg
    subst hP hw hK
    obtain ⟨xs, x, hq, hx⟩ := hg
    obtain ⟨its, rv, p, hz⟩ := I.list hq
    obtain ⟨u, hu, ru⟩ := rv.get hx
    obtain ⟨f0, f1, f2, f3, f4, f5⟩ := hf it (by simp)
    refine wpAny_pyNext_list_item st p.isList (x := u) (by simpa using hu) fun h' st' sb => ?_
    have I1 : Inv X pins σ H { s with heap := h' } := I.turned (t' := s.toks) (fun b o hb e => (sb.2 b hb).trans e) f0 f1 f3 f4 f5
    obtain ⟨o, e, c, d⟩ := id st'
    exact ⟨u, rfl, go_of (s := { s with heap := h' }) e c d (by decide) ⟨x, H, I1, ru, ⟨rfl, fun ys hy => by rw [I.list_inj hy hq]; exact hx⟩, st', fun b hb => (hf b hb).1⟩⟩
  done := by
    intro X hP hw hK hc i pins s σ H E I hf st hg
    subst hP hw hK
    obtain ⟨xs, hq, hx⟩ := hg
    obtain ⟨its, rv, p, hz⟩ := I.list hq
    obtain ⟨f0, f1, f2, f3, f4, f5⟩ := hf it (by simp)
    have hl := rv.length
    exact wpAny_pyNext_list_end (I.ok.hd hc) st p.isList (by simp; omega) fun h' eb => ⟨rfl, I.turned (t' := s.toks) (fun b o hb e => eb b o hb e) f0 f1 f3 f4 f5⟩
  self := fun _ _ _ _ _ st h => wpAny_pyIter_listiter st h
theorem turn_range {P : Program} {w : World} {K : PySem.W.Frag} {tg : Expr} (it : Addr) (lo : Int) (n : Nat) : Turn P w K tg (Itr lo n) [it] it (fun i h => IsRangeIter h it (lo + (i : Nat) * 1) ((n : Int) - (i : Nat)) 1) where
  mem := by simp
  obj := fun i h st b hb => by
    have e : b = it := by simpa using hb
    subst e
    exact ⟨_, st, fun v z => by
      have z' : Data.fields _ = Data.cell v := z
      cases z'⟩
  keep := fun i h h' st k => k it (by simp) _ st
  item := by
    intro X hP hw hK hc i pins s σ H E I hf st hg
    subst hP hw hK
    obtain ⟨f0, f1, f2, f3, f4, f5⟩ := hf it (by simp)
    have W := Walks.range (prog := X.prog) (w := X.w) (I.ok.hd hc) it lo 1 n
    refine W.item i s _ _ hg st fun v h' tk hv st' kk => ?_
    obtain ⟨t, rfl⟩ := hv
    have I1 : Inv X pins σ H { s with heap := h', toks := tk } := I.turned (fun b o hb e => kk b o (by simpa using hb) e) f0 f1 f3 f4 f5
    refine ⟨_, rfl, go_of (s := { s with heap := h', toks := tk }) (n := "range_iterator") st' rfl rfl (by decide) ⟨.int (lo + i), H, I1, ⟨t, ?_⟩, ⟨rfl, rfl⟩, st', fun b hb => (hf b hb).1⟩⟩
    rw [Int.mul_one]
  done := by
    intro X hP hw hK hc i pins s σ H E I hf st hg
    subst hP hw hK
    obtain ⟨f0, f1, f2, f3, f4, f5⟩ := hf it (by simp)
    exact wpAny_pyNext_range_end (I.ok.hd hc) st (by have : n ≤ i := hg; omega) fun h' eb => ⟨rfl, I.turned (t' := s.toks) (fun b o hb e => eb b o hb e) f0 f1 f3 f4 f5⟩
  self := fun _ _ _ _ _ st h => wpAny_pyIter_rangeiter st h
end L2

namespace L2
open PySem PySem.Spec PyProof.Rows
section
variable {X : Cx} {tg : Expr}
def iList (K : PySem.W.Frag) (tl : TE) : TI := fun σ H R => tl σ H fun x H1 => ∃ a, x = .ref a ∧ (∃ xs, SqL K H1 a xs) ∧ R (Itl K a) H1
theorem pi_list {l : Expr} {tl : TE} (hl : PE X l tl) : PI X tg l (iList X.K tl) := by
  intro pins s σ H R I h
  refine thn (hl pins s σ H _ I h) fun v s1 ⟨x, H1, I1, r1, q1⟩ => ?_
  obtain ⟨a, e, ⟨xs, hq⟩, q⟩ := q1
  subst e
  cases r1
  obtain ⟨its, rv, p, hz⟩ := I1.list hq
  refine wpAny_pyIter_list p.isList ?_
  refine ⟨s1.heap.objs.size, [s1.heap.objs.size], _, _, H1, rfl, I1.kept (t' := s1.toks) fun b o e => Heap.get?_push_of_some _ e, turn_list a _, ⟨_, Heap.get?_push_size _ rfl, rfl, rfl⟩, fun b hb => ?_, q⟩
  have e : b = s1.heap.objs.size := by simpa using hb
  subst e
  exact I1.fpOk (Nat.le_refl _) (I1.hok.fresh (Nat.le_refl _))
/-- a range object just made, walked -/
theorem range_it {pins : List (Addr × Obj)} {σ : St} {H : Hp} {s : Shared} {R : It → Hp → Prop} {E : Value → Shared → Prop} {lo hi : Int} {t u v : Tok} {tk : Nat} (I : Inv X pins σ H s) (h1 : -(2 ^ 62) ≤ lo) (h2 : lo < 2 ^ 62) (h3 : -(2 ^ 62) ≤ hi) (h4 : hi < 2 ^ 62)
    (q : R (Itr lo (hi - lo).toNat) H) : wpAny (model X.prog X.w) X.A (pyIter (.ref s.heap.objs.size)) (PIE X pins σ tg R) E { s with heap := s.heap.push { cls := .type "range", data := .fields #[.int lo t, .int hi u, .int 1 v] }, toks := tk } := by
  refine wpAny_pyIter_range (IsRange.new ..) (small_one h1 h2 h3 h4) ?_
  have I1 : Inv X pins σ H { s with heap := s.heap.push { cls := .type "range", data := .fields #[.int lo t, .int hi u, .int 1 v] }, toks := tk } := I.kept fun b o e => Heap.get?_push_of_some _ e
  refine ⟨(s.heap.push { cls := .type "range", data := .fields #[.int lo t, .int hi u, .int 1 v] }).objs.size, [(s.heap.push { cls := .type "range", data := .fields #[.int lo t, .int hi u, .int 1 v] }).objs.size], _, _, H, rfl,
    I1.kept (t' := tk) fun b o e => Heap.get?_push_of_some _ e, turn_range _ lo (hi - lo).toNat, ?_, fun b hb => ?_, q⟩
  · have e1 : lo + ((0 : Nat) : Int) * 1 = lo := by simp
    have e2 : (((hi - lo).toNat : Nat) : Int) - ((0 : Nat) : Int) = Builtin.Range.rangeSize lo hi 1 := by rw [rangeSize_one]; split <;> omega
    show IsRangeIter _ _ (lo + ((0 : Nat) : Int) * 1) ((((hi - lo).toNat : Nat) : Int) - ((0 : Nat) : Int)) 1
    rw [e1, e2]
    exact Heap.get?_push_size _ rfl
  · have e : b = (s.heap.push { cls := .type "range", data := .fields #[.int lo t, .int hi u, .int 1 v] }).objs.size := by simpa using hb
    subst e
    exact I1.fpOk (Nat.le_refl _) (I1.hok.fresh (Nat.le_refl _))
def iRng1 (ta : TA) : TI := fun σ H R => ta σ H fun vs H1 => ∃ j : Int, vs = [.int j] ∧ -(2 ^ 62) ≤ j ∧ j < 2 ^ 62 ∧ R (Itr 0 j.toNat) H1
theorem pi_range1 {a : Expr} {ta : TA} {p pos : Pos} (hg : Gl X "range") (hm : X.mg "range" = none) (ha : PA X [a] ta) (hs : starEach [a] X.env = [(false, eval a X.env)] := by rfl) : PI X tg (.Call (.Name "range" p) [a] [] pos) (iRng1 ta) := by
  intro pins s σ H R I h
  refine Call_ (ld_blt I hg hm boot_range (PyProof.Rows.callWith_type1 (thn (ha pos pins s σ H _ I h) fun us s1 ⟨vs, H1, I1, r1, q1⟩ => ?_) hs rfl))
  obtain ⟨j, e, q1, q2, q⟩ := q1
  subst e
  cases r1 with
  | cons r rr =>
    cases rr
    obtain ⟨t, rfl⟩ := r
    exact call_range_1 (range_it I1 (by omega) (by omega) q1 q2 (by simpa using q))
/-! ### for -/
/-- W: the invariant by the turn and a measure; N: what the body is to reach -/
def tFor (wi : TI) (g : TG) (tb : TS) : TS := fun D σ H => wi σ H fun J H1 => ∃ W : Nat → Nat → St → Hp → Prop, (∃ m, W 0 m σ H1) ∧ ∀ i m σ H, W i m σ H →
  (J.stop i H ∧ D.nx σ H) ∨ (J.go i H ∧ ∃ N : St → Hp → Prop, (∀ σ' H', N σ' H' → ∃ m', m' < m ∧ W (i + 1) m' σ' H') ∧ ∀ x H', J.yld i H x H' → g x σ H' fun σ2 H2 => tb { D with nx := N, ct := N, bk := D.nx } σ2 H2)
/-- the records at fp as they stand -/
def pinsAt (fp : List Addr) (h : Heap) : List (Addr × Obj) := fp.filterMap fun b => (h.get? b).map fun o => (b, o)
theorem mem_pinsAt {fp : List Addr} {h : Heap} {b : Addr} {o : Obj} (hb : b ∈ fp) (e : h.get? b = some o) : (b, o) ∈ pinsAt fp h := List.mem_filterMap.mpr ⟨b, hb, by rw [e]; rfl⟩
theorem of_pinsAt {fp : List Addr} {h : Heap} {p : Addr × Obj} (hp : p ∈ pinsAt fp h) : p.1 ∈ fp ∧ h.get? p.1 = some p.2 := by
  obtain ⟨b, hb, e⟩ := List.mem_filterMap.mp hp
  cases q : h.get? b with
  | none => rw [q] at e; cases e
  | some o =>
    rw [q] at e
    have e' : (b, o) = p := Option.some.inj e
    subst e'
    exact ⟨hb, q⟩
theorem Inv.pinned {pins : List (Addr × Obj)} {σ : St} {H : Hp} {s : Shared} {fp : List Addr} (I : Inv X pins σ H s) (hf : ∀ b ∈ fp, FpOk X pins H b) (ho : ∀ b ∈ fp, ∃ o, s.heap.get? b = some o ∧ ∀ v, o.data ≠ .cell v) : Inv X (pins ++ pinsAt fp s.heap) σ H s :=
  I.pins_of fun p hp => (List.mem_append.mp hp).elim (fun z => I.pin p (List.mem_append_right _ z)) fun z => by
    obtain ⟨hb, e⟩ := of_pinsAt z
    obtain ⟨f0, f1, f2, _⟩ := hf p.1 hb
    obtain ⟨o, e', d⟩ := ho p.1 hb
    rw [e] at e'; cases e'
    exact ⟨e, f0, f1, f2, d⟩
theorem Inv.unpinned {pins pl : List (Addr × Obj)} {σ : St} {H : Hp} {s : Shared} (I : Inv X (pins ++ pl) σ H s) : Inv X pins σ H s := I.pins_of fun p hp => I.pin p (List.mem_append_right _ (List.mem_append_left _ hp))
theorem ps_for {iter : Expr} {body : List Stmt} {wi : TI} {g : TG} {tb : TS} {pos : Pos} (hp : PassesOwn (model X.prog X.w) X.A X.env X.xe) (hc : X.calm = true) (hi : PI X tg iter wi) (hg : PG X tg g) (hb : PSs X body tb)
    (hs : ∀ x, foldedSetIterable iter X.env x = pure x := by intro _; rfl) : PS X (.For tg iter body [] pos) (tFor wi g tb) := by
  intro pins s σ H D I h
  refine wpAny_For (thn (hi pins s σ H _ I h) fun v s1 h1 => thn h1 fun itv s2 h2 => ?_) hs
  obtain ⟨it, fp, tn, J, H2, e, I2, T, st2, f2, W, ⟨m0, w0⟩, turn⟩ := h2
  subst e
  -- what stays true of the iterator's objects through the loop
  have stat : ∀ {H' : Hp}, (∀ b ∈ fp, H' b = none) → ∀ b ∈ fp, FpOk X pins H' b := fun hn b hb => ⟨hn b hb, (f2 b hb).2⟩
  refine codeAny_forLoop_any (fun n s' => ∃ i σ' H', Inv X pins σ' H' s' ∧ tn i s'.heap ∧ (∀ b ∈ fp, H' b = none) ∧ W i n σ' H') ?_ m0 ⟨0, σ, H2, I2, st2, fun b hb => (f2 b hb).1, w0⟩
  rintro n s3 ⟨i, σ3, H3, I3, st3, fr3, w3⟩
  rcases turn i n σ3 H3 w3 with ⟨stop, qn⟩ | ⟨go, N, hN, step⟩
  · refine wpAny_passesOwn hp (thn (T.done X rfl rfl rfl hc i pins s3 σ3 H3 X.xe I3 (stat fr3) st3 stop) fun r s4 ⟨hr, I4⟩ => ?_)
    subst hr
    exact wpAny_execs_nil ⟨σ3, H3, I4, qn⟩
  · refine wpAny_passesOwn hp (thn (T.item X rfl rfl rfl hc i pins s3 σ3 H3 X.xe I3 (stat fr3) st3 go) fun r s4 ⟨u, hr, h4⟩ => ?_)
    subst hr
    refine wpAny_passesOwn hp (thn h4 fun _ s5 ⟨x, H5, I5, r5, y5, st5, fr5⟩ => ?_)
    have I5' := I5.pinned (stat fr5) (T.obj _ _ st5)
    refine wpAny_passesOwn hp (thn (hg _ s5 σ3 H5 x u _ I5' r5 (step x H5 y5)) fun _ s6 ⟨σ6, H6, I6, q6⟩ => ?_)
    refine wpAny_passesOwn hp (thn (hb _ s6 σ6 H6 _ I6 q6) fun f s7 q7 => ?_)
    have again : ∀ {σ7 : St} {H7 : Hp}, Inv X (pins ++ pinsAt fp s5.heap) σ7 H7 s7 → N σ7 H7 → ∃ m, m < n ∧ ∃ i σ' H', Inv X pins σ' H' s7 ∧ tn i s7.heap ∧ (∀ b ∈ fp, H' b = none) ∧ W i m σ' H' := fun {σ7 H7} I7 n7 => by
      obtain ⟨m', hm, w7⟩ := hN σ7 H7 n7
      refine ⟨m', hm, i + 1, σ7, H7, I7.unpinned, T.keep _ _ _ st5 fun b hb o e => (I7.pin (b, o) (List.mem_append_right _ (List.mem_append_right _ (mem_pinsAt hb e)))).1, fun b hb => ?_, w7⟩
      obtain ⟨o, e, d⟩ := T.obj _ _ st5 b hb
      exact (I7.pin (b, o) (List.mem_append_right _ (List.mem_append_right _ (mem_pinsAt hb e)))).2.1
    cases f with
    | next => obtain ⟨σ7, H7, I7, n7⟩ := q7; exact again I7 n7
    | cont => obtain ⟨σ7, H7, I7, n7⟩ := q7; exact again I7 n7
    | brk => obtain ⟨σ7, H7, I7, q7⟩ := q7; exact ⟨σ7, H7, I7.unpinned, q7⟩
    | ret v => obtain ⟨x7, σ7, H7, I7, r7, q7⟩ := q7; exact ⟨x7, σ7, H7, I7.unpinned, r7, q7⟩
end

/-! ### the forms one uses -/
/-- over a list that the body leaves as it is -/
theorem for_list {K : PySem.W.Frag} {a : Addr} {xs : List V} {g : TG} {tb : TS} {D : Ends} {σ : St} {H : Hp} (Pv : Nat → St → Hp → Prop) (h0 : Pv 0 σ H) (hl : ∀ i σ H, i ≤ xs.length → Pv i σ H → SqL K H a xs)
    (hs : ∀ i x σ H, xs[i]? = some x → Pv i σ H → g x σ H fun σ2 H2 => tb { D with nx := Pv (i + 1), ct := Pv (i + 1), bk := D.nx } σ2 H2) (hd : ∀ σ H, Pv xs.length σ H → D.nx σ H) :
    ∃ W : Nat → Nat → St → Hp → Prop, (∃ m, W 0 m σ H) ∧ ∀ i m σ H, W i m σ H →
      ((Itl K a).stop i H ∧ D.nx σ H) ∨ ((Itl K a).go i H ∧ ∃ N : St → Hp → Prop, (∀ σ' H', N σ' H' → ∃ m', m' < m ∧ W (i + 1) m' σ' H') ∧ ∀ x H', (Itl K a).yld i H x H' → g x σ H' fun σ2 H2 => tb { D with nx := N, ct := N, bk := D.nx } σ2 H2) := by
  refine ⟨fun i m σ H => m = xs.length - i ∧ i ≤ xs.length ∧ Pv i σ H, ⟨xs.length, by simp, Nat.zero_le _, h0⟩, ?_⟩
  rintro i m σ H ⟨rfl, hi, p⟩
  have q := hl i σ H hi p
  by_cases hlt : i < xs.length
  · refine .inr ⟨⟨xs, xs[i], q, by simp [hlt]⟩, Pv (i + 1), fun σ' H' p' => ⟨xs.length - (i + 1), by omega, rfl, hlt, p'⟩, fun x H' y => ?_⟩
    obtain ⟨e, y⟩ := y
    subst e
    exact hs i x σ _ (y xs q) p
  · have e : i = xs.length := by omega
    subst e
    exact .inl ⟨⟨xs, q, Nat.le_refl _⟩, hd σ H p⟩
theorem for_range {lo : Int} {n : Nat} {g : TG} {tb : TS} {D : Ends} {σ : St} {H : Hp} (Pv : Nat → St → Hp → Prop) (h0 : Pv 0 σ H)
    (hs : ∀ i σ H, i < n → Pv i σ H → g (.int (lo + i)) σ H fun σ2 H2 => tb { D with nx := Pv (i + 1), ct := Pv (i + 1), bk := D.nx } σ2 H2) (hd : ∀ σ H, Pv n σ H → D.nx σ H) :
    ∃ W : Nat → Nat → St → Hp → Prop, (∃ m, W 0 m σ H) ∧ ∀ i m σ H, W i m σ H →
      ((Itr lo n).stop i H ∧ D.nx σ H) ∨ ((Itr lo n).go i H ∧ ∃ N : St → Hp → Prop, (∀ σ' H', N σ' H' → ∃ m', m' < m ∧ W (i + 1) m' σ' H') ∧ ∀ x H', (Itr lo n).yld i H x H' → g x σ H' fun σ2 H2 => tb { D with nx := N, ct := N, bk := D.nx } σ2 H2) := by
  refine ⟨fun i m σ H => m = n - i ∧ i ≤ n ∧ Pv i σ H, ⟨n, by simp, Nat.zero_le _, h0⟩, ?_⟩
  rintro i m σ H ⟨rfl, hi, p⟩
  by_cases hlt : i < n
  · refine .inr ⟨hlt, Pv (i + 1), fun σ' H' p' => ⟨n - (i + 1), by omega, rfl, hlt, p'⟩, fun x H' y => ?_⟩
    obtain ⟨e, y⟩ := y
    subst e y
    exact hs i σ _ hlt p
  · have e : i = n := by omega
    subst e
    exact .inl ⟨Nat.le_refl _, hd σ H p⟩
end L2

namespace L2
open PySem PySem.Spec PyProof.Rows

abbrev R2 := V → V → Hp → VK → Prop
/-- a two-place operation on values: f is binaryOp op, inplaceOp op or compareOp op -/
def OpR (X : Cx) (f : Value → Value → Sem Value) (r : R2) : Prop :=
  ∀ (pins : List (Addr × Obj)) (s : Shared) (σ : St) (H : Hp) (x y : V) (v u : Value) (Q : VK), Inv X pins σ H s → RelV x v → RelV y u → r x y H Q →
    wpAny (model X.prog X.w) X.A (f v u) (EP X pins σ Q) X.xe s
/-- a one-place operation -/
def UnR (X : Cx) (f : Value → Sem Value) (r : V → Hp → VK → Prop) : Prop :=
  ∀ (pins : List (Addr × Obj)) (s : Shared) (σ : St) (H : Hp) (x : V) (v : Value) (Q : VK), Inv X pins σ H s → RelV x v → r x H Q →
    wpAny (model X.prog X.w) X.A (f v) (EP X pins σ Q) X.xe s
/-- a call of a value that is known (a builtin, a type) with values -/
def CallR (X : Cx) (f : Value) (r : List V → Hp → VK → Prop) : Prop :=
  ∀ (pins : List (Addr × Obj)) (s : Shared) (σ : St) (H : Hp) (xs : List V) (us : List Value) (Q : VK), Inv X pins σ H s → Vals xs us → r xs H Q →
    wpAny (model X.prog X.w) X.A (call f us) (EP X pins σ Q) X.xe s
def tOp (r : R2) (ta tb : TE) : TE := fun σ H Q => ta σ H fun x H1 => tb σ H1 fun y H2 => r x y H2 Q
def tUn (r : V → Hp → VK → Prop) (ta : TE) : TE := fun σ H Q => ta σ H fun x H1 => r x H1 Q
/-- ints in, under C, and a value out -/
def rI (C : Int → Int → Prop) (g : Int → Int → V) : R2 := fun x y H Q => ∃ i j, x = .int i ∧ y = .int j ∧ C i j ∧ Q (g i j) H
def rI0 (g : Int → Int → V) : R2 := fun x y H Q => ∃ i j, x = .int i ∧ y = .int j ∧ Q (g i j) H
def rU (g : Int → V) : V → Hp → VK → Prop := fun x H Q => ∃ i, x = .int i ∧ Q (g i) H

section
variable {X : Cx} {a b c : Expr} {ta tb tc : TE} {pos : Pos}

theorem binT (ha : PE X a ta) (hb : PE X b tb) {pins : List (Addr × Obj)} {s : Shared} {σ : St} {H : Hp} {R : V → V → Hp → Prop} (I : Inv X pins σ H s)
    (h : ta σ H fun x H1 => tb σ H1 fun y H2 => R x y H2) {Q : Value → Shared → Prop} {f : Value → Value → Sem Value}
    (hf : ∀ v u s2 x y H2, Inv X pins σ H2 s2 → RelV x v → RelV y u → R x y H2 → wpAny (model X.prog X.w) X.A (f v u) Q X.xe s2) :
    wpAny (model X.prog X.w) X.A (eval a X.env) (fun v s₁ => wpAny (model X.prog X.w) X.A (eval b X.env) (fun u s₂ => wpAny (model X.prog X.w) X.A (f v u) Q X.xe s₂) X.xe s₁) X.xe s := by
  refine thn (ha pins s σ H _ I h) fun v s1 ⟨x, H1, I1, r1, q1⟩ => ?_
  refine thn (hb pins s1 σ H1 _ I1 q1) fun u s2 ⟨y, H2, I2, r2, q2⟩ => ?_
  exact hf v u s2 x y H2 I2 r1 r2 q2

theorem pe_op {op : Operator} {r : R2} (ho : OpR X (binaryOp op) r) (ha : PE X a ta) (hb : PE X b tb) : PE X (.BinOp a op b pos) (tOp r ta tb) := by
  intro pins s σ H Q I h
  exact wpAny_BinOp (binT ha hb I h fun v u s2 x y H2 I2 rx ry q => ho pins s2 σ H2 x y v u Q I2 rx ry q)
theorem pe_un {op : UnaryOp} {r : V → Hp → VK → Prop} (ho : UnR X (unaryOp op) r) (ha : PE X a ta) : PE X (.UnaryOp op a pos) (tUn r ta) := by
  intro pins s σ H Q I h
  exact UnaryOp_ (thn (ha pins s σ H _ I h) fun v s1 ⟨x, H1, I1, r1, q1⟩ => ho pins s1 σ H1 x v Q I1 r1 q1)
/-! ### ints -/
theorem opI {f : Value → Value → Sem Value} {C : Int → Int → Prop} {g : Int → Int → Int}
    (rule : ∀ (i j : Int) (t u : Tok) (s : Shared) (Q : Value → Shared → Prop) (E : Value → Shared → Prop), C i j → Q (.int (g i j) s.toks) { s with toks := s.toks + 1 } → wpAny (model X.prog X.w) X.A (f (.int i t) (.int j u)) Q E s) :
    OpR X f (rI C fun i j => .int (g i j)) := by
  intro pins s σ H x y v u Q I rx ry h
  obtain ⟨i, j, rfl, rfl, hc, q⟩ := h
  obtain ⟨t, rfl⟩ := rx
  obtain ⟨t', rfl⟩ := ry
  exact rule i j t t' s _ _ hc ⟨.int (g i j), H, I.tok _, ⟨_, rfl⟩, q⟩
theorem opI0 {f : Value → Value → Sem Value} {g : Int → Int → Int}
    (rule : ∀ (i j : Int) (t u : Tok) (s : Shared) (Q : Value → Shared → Prop) (E : Value → Shared → Prop), Q (.int (g i j) s.toks) { s with toks := s.toks + 1 } → wpAny (model X.prog X.w) X.A (f (.int i t) (.int j u)) Q E s) :
    OpR X f (rI0 fun i j => .int (g i j)) := by
  intro pins s σ H x y v u Q I rx ry h
  obtain ⟨i, j, rfl, rfl, q⟩ := h
  obtain ⟨t, rfl⟩ := rx
  obtain ⟨t', rfl⟩ := ry
  exact rule i j t t' s _ _ ⟨.int (g i j), H, I.tok _, ⟨_, rfl⟩, q⟩
theorem opB0 {f : Value → Value → Sem Value} {g : Int → Int → Bool}
    (rule : ∀ (i j : Int) (t u : Tok) (s : Shared) (Q : Value → Shared → Prop) (E : Value → Shared → Prop), Q (.bool (g i j)) s → wpAny (model X.prog X.w) X.A (f (.int i t) (.int j u)) Q E s) :
    OpR X f (rI0 fun i j => .bl (g i j)) := by
  intro pins s σ H x y v u Q I rx ry h
  obtain ⟨i, j, rfl, rfl, q⟩ := h
  obtain ⟨t, rfl⟩ := rx
  obtain ⟨t', rfl⟩ := ry
  exact rule i j t t' s _ _ ⟨.bl (g i j), H, I, rfl, q⟩

def CDiv (i j : Int) : Prop := 0 < j ∧ j < 1073741824
def CPow (i j : Int) : Prop := 0 ≤ j ∧ j ≤ 1000000 ∧ i.natAbs < 2 ^ 64
def CMul (i j : Int) : Prop := (-(2 ^ 64) < i ∧ i < 2 ^ 64) ∨ (-(2 ^ 64) < j ∧ j < 2 ^ 64)
theorem CMul.ok {i j : Int} (h : CMul i j) : IntMulOk i j := by
  rcases h with ⟨h1, h2⟩ | ⟨h1, h2⟩
  · exact .of_left (intBits_le_64 h1 h2)
  · exact .of_right (intBits_le_64 h1 h2)
theorem op_add : OpR X (binaryOp .Add) (rI0 fun i j => .int (i + j)) := opI0 fun _ _ _ _ _ _ _ q => add_int q
theorem op_sub : OpR X (binaryOp .Sub) (rI0 fun i j => .int (i - j)) := opI0 fun _ _ _ _ _ _ _ q => sub_int q
theorem op_mul : OpR X (binaryOp .Mult) (rI CMul fun i j => .int (i * j)) := opI fun _ _ _ _ _ _ _ hc q => mul_int q hc.ok
/-- // by a positive divisor -/
theorem op_fdiv : OpR X (binaryOp .FloorDiv) (rI CDiv fun i j => .int (i / j)) := opI fun i j _ _ _ _ _ hc q => by
  have h1 : (0 : Int) < j := hc.1
  have h2 : j < 1073741824 := hc.2
  exact floordiv_int (by omega) (by rw [Int.fdiv_eq_ediv_of_nonneg i (by omega)]; exact q) (.inl (PyProof.noPylong_small (by omega)))
/-- % by a positive divisor of any size -/
theorem op_mod : OpR X (binaryOp .Mod) (rI (fun _ j => 0 < j) fun i j => .int (i % j)) := opI fun i j _ _ _ _ _ hc q => by
  have h1 : (0 : Int) < j := hc
  exact mod_int' (by omega) (by rw [Int.fmod_eq_emod_of_nonneg i (by omega)]; exact q)
theorem op_pow : OpR X (binaryOp .Pow) (rI CPow fun i j => .int (i ^ j.toNat)) := opI fun _ _ _ _ _ _ _ hc q => pow_int_small hc.1 hc.2.1 hc.2.2 q
theorem unI {f : Value → Sem Value} {g : Int → Int}
    (rule : ∀ (i : Int) (t : Tok) (s : Shared) (Q : Value → Shared → Prop) (E : Value → Shared → Prop), Q (.int (g i) s.toks) { s with toks := s.toks + 1 } → wpAny (model X.prog X.w) X.A (f (.int i t)) Q E s) :
    UnR X f (rU fun i => .int (g i)) := by
  intro pins s σ H x v Q I rx h
  obtain ⟨i, rfl, q⟩ := h
  obtain ⟨t, rfl⟩ := rx
  exact rule i t s _ _ ⟨.int (g i), H, I.tok _, ⟨_, rfl⟩, q⟩
theorem un_neg : UnR X (unaryOp .USub) (rU fun i => .int (-i)) := unI fun _ _ _ _ _ q => neg_int q
/-! ### bools among ints: n += (a < b) -/
end

/-! ### comparisons -/
/-- the scalars that == tells apart as data does -/
def scal : V → V → Bool
  | .non, .non => true | .non, .int _ => true | .int _, .non => true | .non, .bl _ => true | .bl _, .non => true | .non, .str _ => true | .str _, .non => true
  | .int _, .int _ => true | .bl _, .bl _ => true | .str _, .str _ => true | .byt _, .byt _ => true
  | .int _, .str _ => true | .str _, .int _ => true | .bl _, .str _ => true | .str _, .bl _ => true
  | _, _ => false
def rEq : R2 := fun x y H Q => scal x y = true ∧ Q (.bl (decide (x = y))) H
def rNe : R2 := fun x y H Q => scal x y = true ∧ Q (.bl (!decide (x = y))) H

theorem dec_int {i j : Int} : decide (V.int i = V.int j) = (i == j) := by
  rw [Bool.eq_iff_iff]
  simp
theorem dec_bl {i j : Bool} : decide (V.bl i = V.bl j) = (i == j) := by
  rw [Bool.eq_iff_iff]
  simp
theorem dec_str {i j : Str} : decide (V.str i = V.str j) = (i == j) := by
  rw [Bool.eq_iff_iff]
  simp
theorem dec_byt {i j : Array UInt8} : decide (V.byt i = V.byt j) = (i.toList == j.toList) := by
  rw [Bool.eq_iff_iff]
  cases i
  cases j
  simp

section
variable {X : Cx} {a b c : Expr} {ta tb tc : TE} {pos : Pos}
theorem fin_bl {pins : List (Addr × Obj)} {σ : St} {H : Hp} {s : Shared} {Q : VK} {k k' : Bool} (I : Inv X pins σ H s) (q : Q (.bl k) H) (e : k = k') : EP X pins σ Q (.bool k') s := by
  subst e
  exact ⟨.bl k, H, I, rfl, q⟩
theorem op_eq : OpR X (compareOp .Eq) rEq := by
  intro pins s σ H x y v u Q I rx ry h
  obtain ⟨hs, q⟩ := h
  cases x with
  | non =>
    cases rx
    cases y with
    | non => cases ry; exact PySem.EqNone.eq_none_none (fin_bl I q (by simp))
    | bl j => cases ry; exact PySem.EqNone.eq_none_bool (fin_bl I q (by simp))
    | int j => obtain ⟨t', rfl⟩ := ry; exact PySem.EqNone.eq_none_int (fin_bl I q (by simp))
    | str j => obtain ⟨t', rfl⟩ := ry; exact PySem.EqNone.eq_none_str (fin_bl I q (by simp))
    | _ => exact absurd (show false = true from hs) Bool.false_ne_true
  | bl i =>
    cases rx
    cases y with
    | non => cases ry; exact PySem.EqNone.eq_bool_none (fin_bl I q (by simp))
    | bl j => cases ry; exact eq_bool (fin_bl I q dec_bl)
    | str j => obtain ⟨t', rfl⟩ := ry; exact PySem.EqMixed.eq_bool_str (fin_bl I q (by simp))
    | _ => exact absurd (show false = true from hs) Bool.false_ne_true
  | int i =>
    obtain ⟨t, rfl⟩ := rx
    cases y with
    | non => cases ry; exact PySem.EqNone.eq_int_none (fin_bl I q (by simp))
    | int j => obtain ⟨t', rfl⟩ := ry; exact eq_int (fin_bl I q dec_int)
    | str j => obtain ⟨t', rfl⟩ := ry; exact PySem.EqMixed.eq_int_str (fin_bl I q (by simp))
    | _ => exact absurd (show false = true from hs) Bool.false_ne_true
  | str i =>
    obtain ⟨t, rfl⟩ := rx
    cases y with
    | non => cases ry; exact PySem.EqNone.eq_str_none (fin_bl I q (by simp))
    | bl j => cases ry; exact PySem.EqMixed.eq_str_bool (fin_bl I q (by simp))
    | int j => obtain ⟨t', rfl⟩ := ry; exact PySem.EqMixed.eq_str_int (fin_bl I q (by simp))
    | str j => obtain ⟨t', rfl⟩ := ry; exact eq_str (fin_bl I q dec_str)
    | _ => exact absurd (show false = true from hs) Bool.false_ne_true
  | byt i =>
    obtain ⟨t, rfl⟩ := rx
    cases y with
    | byt j => obtain ⟨t', rfl⟩ := ry; exact PySem.W.eq_bytes (fin_bl I q dec_byt)
    | _ => exact absurd (show false = true from hs) Bool.false_ne_true
  | _ => cases y <;> exact absurd (show false = true from hs) Bool.false_ne_true
theorem op_ne : OpR X (compareOp .NotEq) rNe := by
  intro pins s σ H x y v u Q I rx ry h
  obtain ⟨hs, q⟩ := h
  cases x with
  | non =>
    cases rx
    cases y with
    | non => cases ry; exact PySem.EqNone.ne_none_none (fin_bl I q (by simp))
    | bl j => cases ry; exact PySem.EqNone.ne_none_bool (fin_bl I q (by simp))
    | int j => obtain ⟨t', rfl⟩ := ry; exact PySem.EqNone.ne_none_int (fin_bl I q (by simp))
    | str j => obtain ⟨t', rfl⟩ := ry; exact PySem.EqNone.ne_none_str (fin_bl I q (by simp))
    | _ => exact absurd (show false = true from hs) Bool.false_ne_true
  | bl i =>
    cases rx
    cases y with
    | non => cases ry; exact PySem.EqNone.ne_bool_none (fin_bl I q (by simp))
    | bl j => cases ry; exact ne_bool (fin_bl I q (congrArg not dec_bl))
    | str j => obtain ⟨t', rfl⟩ := ry; exact PySem.EqMixed.ne_bool_str (fin_bl I q (by simp))
    | _ => exact absurd (show false = true from hs) Bool.false_ne_true
  | int i =>
    obtain ⟨t, rfl⟩ := rx
    cases y with
    | non => cases ry; exact PySem.EqNone.ne_int_none (fin_bl I q (by simp))
    | int j => obtain ⟨t', rfl⟩ := ry; exact ne_int (fin_bl I q (congrArg not dec_int))
    | str j => obtain ⟨t', rfl⟩ := ry; exact PySem.EqMixed.ne_int_str (fin_bl I q (by simp))
    | _ => exact absurd (show false = true from hs) Bool.false_ne_true
  | str i =>
    obtain ⟨t, rfl⟩ := rx
    cases y with
    | non => cases ry; exact PySem.EqNone.ne_str_none (fin_bl I q (by simp))
    | bl j => cases ry; exact PySem.EqMixed.ne_str_bool (fin_bl I q (by simp))
    | int j => obtain ⟨t', rfl⟩ := ry; exact PySem.EqMixed.ne_str_int (fin_bl I q (by simp))
    | str j => obtain ⟨t', rfl⟩ := ry; exact ne_str (fin_bl I q (congrArg not dec_str))
    | _ => exact absurd (show false = true from hs) Bool.false_ne_true
  | byt i =>
    obtain ⟨t, rfl⟩ := rx
    cases y with
    | byt j => obtain ⟨t', rfl⟩ := ry; exact PySem.W.ne_bytes (fin_bl I q (congrArg not dec_byt))
    | _ => exact absurd (show false = true from hs) Bool.false_ne_true
  | _ => cases y <;> exact absurd (show false = true from hs) Bool.false_ne_true

theorem op_lt : OpR X (compareOp .Lt) (rI0 fun i j => .bl (decide (i < j))) := opB0 fun _ _ _ _ _ _ _ q => lt_int q
theorem op_gt : OpR X (compareOp .Gt) (rI0 fun i j => .bl (decide (j < i))) := opB0 fun _ _ _ _ _ _ _ q => gt_int q
/-- is None, is not None: the right side a value none -/
theorem op_isN : OpR X (compareOp .Is) (fun x y H Q => y = .non ∧ Q (.bl (decide (x = .non))) H) := by
  intro pins s σ H x y v u Q I rx ry h
  obtain ⟨rfl, q⟩ := h
  cases ry
  refine is_none_gen (fin_bl I q ?_)
  cases x <;> first
    | (cases rx; rfl)
    | (obtain ⟨t, rfl⟩ := rx; rfl)
theorem op_notN : OpR X (compareOp .IsNot) (fun x y H Q => y = .non ∧ Q (.bl (!decide (x = .non))) H) := by
  intro pins s σ H x y v u Q I rx ry h
  obtain ⟨rfl, q⟩ := h
  cases ry
  refine isnot_none_gen (fin_bl I q ?_)
  cases x <;> first
    | (cases rx; rfl)
    | (obtain ⟨t, rfl⟩ := rx; rfl)

theorem nomark (b : Expr) {op : CmpOp} (h : op ≠ .In := by decide) (h2 : op ≠ .NotIn := by decide) : behindInMarks op b = false := by
  have e1 : (op == CmpOp.In) = false := by cases op <;> first | rfl | exact absurd rfl h
  have e2 : (op == CmpOp.NotIn) = false := by cases op <;> first | rfl | exact absurd rfl h2
  cases b <;> simp [behindInMarks, e1, e2]
/-- a comparison as a value; hm: nomark b, or (for in, not in) by with_unfolding_all rfl -/
theorem pe_cmpR {op : CmpOp} {r : R2} (ho : OpR X (compareOp op) r) (ha : PE X a ta) (hb : PE X b tb) (hm : behindInMarks op b = false) : PE X (.Compare a [op] [b] pos) (tOp r ta tb) := by
  intro pins s σ H Q I h
  exact wpAny_Compare1 (binT ha hb I h fun v u s2 x y H2 I2 rx ry q => ho pins s2 σ H2 x y v u Q I2 rx ry q) hm
/-- a reading of a value as a test -/
def tTest (t : TE) : TT := fun σ H Q => t σ H fun x H' => ∃ k, x = .bl k ∧ Q k H'
theorem pt_cmpR {op : CmpOp} {r : R2} (ho : OpR X (compareOp op) r) (ha : PE X a ta) (hb : PE X b tb) (hm : behindInMarks op b = false) : PT X (.Compare a [op] [b] pos) (tTest (tOp r ta tb)) := by
  intro pins s σ H Q I h
  refine wpAny_isTrue_Compare1 (thn (ha pins s σ H _ I h) fun v s1 ⟨x, H1, I1, r1, q1⟩ => thn (hb pins s1 σ H1 _ I1 q1) fun u s2 ⟨y, H2, I2, r2, q2⟩ =>
    thn (ho pins s2 σ H2 x y v u _ I2 r1 r2 q2) fun c s3 ⟨z, H3, I3, r3, k, e, q3⟩ => ?_) hm
  subst e
  cases r3
  exact wpAny_truthy_bool ⟨H3, I3, q3⟩
/-! ### truth -/
theorem line63 : (sizeLine : Nat) < 2 ^ 63 := by rw [sizeLine_eq]; decide
/-! ### strs and bytes -/
theorem op_add_str : OpR X (binaryOp .Add) (fun x y H Q => ∃ i j, x = .str i ∧ y = .str j ∧ i.length + j.length ≤ sizeLine ∧ Q (.str (i ++ j)) H) := by
  intro pins s σ H x y v u Q I rx ry h
  obtain ⟨i, j, rfl, rfl, hz, q⟩ := h
  obtain ⟨t, rfl⟩ := rx
  obtain ⟨t', rfl⟩ := ry
  exact add_str (fun t' tk => ⟨.str (i ++ j), H, I.tok _, ⟨_, rfl⟩, q⟩) hz
/-! ### scalar builtins, by CallR -/
theorem vals1 {x : V} {us : List Value} (r : Vals [x] us) : ∃ u, us = [u] ∧ RelV x u := by
  cases r with
  | cons r1 r2 => cases r2; exact ⟨_, rfl, r1⟩
theorem vals2 {x y : V} {us : List Value} (r : Vals [x, y] us) : ∃ u w', us = [u, w'] ∧ RelV x u ∧ RelV y w' := by
  cases r with
  | cons r1 r2 =>
    cases r2 with
    | cons r3 r4 => cases r4; exact ⟨_, _, rfl, r1, r3⟩
theorem call_abs : CallR X (.builtin "abs") (fun xs H Q => ∃ i, xs = [.int i] ∧ Q (.int (if i < 0 then -i else i)) H) := by
  intro pins s σ H xs us Q I r h
  obtain ⟨i, rfl, q⟩ := h
  obtain ⟨u, rfl, t, rfl⟩ := vals1 r
  exact call_abs_int fun u tk => ⟨.int (if i < 0 then -i else i), H, I.tok _, ⟨_, rfl⟩, q⟩
theorem call_max2 (hc : X.calm = true) : CallR X (.builtin "max") (fun xs H Q => ∃ i j, xs = [.int i, .int j] ∧ Q (.int (if j > i then j else i)) H) := by
  intro pins s σ H xs us Q I r h
  obtain ⟨i, j, rfl, q⟩ := h
  obtain ⟨u, w', rfl, ⟨t, rfl⟩, ⟨t', rfl⟩⟩ := vals2 r
  refine max_two_ints (I.ok.hd hc) fun h' tk k => ⟨_, H, I.kept k, ?_, q⟩
  by_cases hj : j > i
  · rw [if_pos hj, if_pos hj]; exact ⟨_, rfl⟩
  · rw [if_neg hj, if_neg hj]; exact ⟨_, rfl⟩
theorem call_min2 (hc : X.calm = true) : CallR X (.builtin "min") (fun xs H Q => ∃ i j, xs = [.int i, .int j] ∧ Q (.int (if j < i then j else i)) H) := by
  intro pins s σ H xs us Q I r h
  obtain ⟨i, j, rfl, q⟩ := h
  obtain ⟨u, w', rfl, ⟨t, rfl⟩, ⟨t', rfl⟩⟩ := vals2 r
  refine min_two_ints (I.ok.hd hc) fun h' tk k => ⟨_, H, I.kept k, ?_, q⟩
  by_cases hj : j < i
  · rw [if_pos hj, if_pos hj]; exact ⟨_, rfl⟩
  · rw [if_neg hj, if_neg hj]; exact ⟨_, rfl⟩
end
end L2

namespace L2
open PySem PySem.Spec PyProof.Rows

/-! ### an instance, its attributes a map -/
structure ObjM (h : Heap) (x dx C : Addr) (mA : Str → Option Value) : Prop where
  obj : h.get? x = some (PySem.W.instObj C dx)
  ns : h.Ns1 dx mA
  ne : dx ≠ x

theorem lookIn_ns {h : Heap} {dx : Addr} {mA : Str → Option Value} (n : h.Ns1 dx mA) : ∃ od, h.get? dx = some od ∧ ∀ name, PySem.W.lookIn name od = some (mA name) := by
  obtain ⟨o, es, ep, ho, hd, hk, _, hm⟩ := n
  refine ⟨o, ho, fun name => ?_⟩
  have e := hm name
  unfold nsFind findBy at e
  rw [← Array.find?_toList] at e
  unfold PySem.W.lookIn
  rw [hd]
  dsimp only
  split
  · rename_i y q
    rw [q] at e
    exact congrArg some e
  · rename_i q
    rw [q] at e
    have a : es.toList.any (·.refKey) = false := by
      rw [List.any_eq_false]
      intro y hy
      obtain ⟨z, t, hkey⟩ := hk y (Array.mem_toList_iff.mp hy)
      simp [DictEntry.refKey, hkey]
    have a' : ¬ es.toList.any (·.refKey) = true := by rw [a]; exact Bool.false_ne_true
    rw [if_neg a']
    exact congrArg some e

theorem ObjM.look {h : Heap} {x dx C : Addr} {mA : Str → Option Value} (I : ObjM h x dx C mA) : ∃ od, PySem.W.InstAt h x (PySem.W.instObj C dx) C (some od) ∧ ∀ name, PySem.W.lookIn name od = some (mA name) :=
  let ⟨od, ho, hl⟩ := lookIn_ns I.ns
  ⟨od, ⟨I.obj, rfl, rfl, ho⟩, hl⟩

section
variable {prog : Program} {w : World} {A : Around} {E : Value → Shared → Prop} {s : Shared} {K : PySem.W.Frag} {x dx C f : Addr} {mA : Str → Option Value} {name : Str} {v : Value}

end

/-! ### the attributes as a list of pairs -/
theorem RelO.some_of {v : V} {o : Option Value} (r : RelO (some v) o) : ∃ u, o = some u ∧ RelV v u := by
  cases o with
  | none => exact (show False from r).elim
  | some u => exact ⟨u, rfl, r⟩
theorem RelO.none_of {o : Option Value} (r : RelO none o) : o = none := by
  cases o with
  | none => rfl
  | some u => exact (show False from r).elim
section
variable {P : Program} {w : World} {H H' : Hp} {h h' : Heap} {a C dx : Addr} {fs fs' : List (Str × V)}
theorem ins_get (hok : HOk P w H h) (e : H a = some (.ins C dx fs)) : ∃ mA, ObjM h a dx C mA ∧ (∀ f, RelO (fs.lookup f) (mA f)) ∧ PySem.Within mA (fs.map (·.1)) ∧ fs.length ≤ 1000 ∧ H dx = some (.own a) := by
  obtain ⟨d, z, ne, ob, mA, n, r, q⟩ := (show ObjOk P w H h a (.ins C dx fs) from hok a _ e)
  exact ⟨mA, ⟨ob, n, ne⟩, r, q, z, d⟩
end

/-! ### what of the text a class must have -/
structure Cls (K : PySem.W.Frag) (C : Addr) : Prop where
  pg : PySem.W.plainGet K C Str.empty = true
  hd : PySem.W.hasDictIn K C = true
  po : PySem.W.plainOver K C = true
  sa : PySem.W.findIn K (.ref C) "__setattr__" = some (some (.builtin "object.__setattr__"))
theorem Cls.get {K : PySem.W.Frag} {C : Addr} (c : Cls K C) (f : Str) : PySem.W.plainGet K C f = true := c.pg
section
variable {X : Cx} {pins : List (Addr × Obj)} {σ : St} {H : Hp} {s : Shared} {a C dx : Addr} {fs : List (Str × V)} {f : Str} {v : V} {A : Around} {E : Value → Shared → Prop}

end

/-! ### readings and rules -/
section
variable {X : Cx} {o e value : Expr} {f : Str} {pos pos' tpos : Pos} {ta tv : TE}
end

/-! ### isinstance -/
section
variable {X : Cx} {pins : List (Addr × Obj)} {σ : St} {H : Hp} {s : Shared} {A : Around} {E : Value → Shared → Prop} {Q : Value → Shared → Prop} {c : Value} {b : Bool}
/-- the type of a value, as the fragment's deciders take it; for an instance its class -/
inductive TyOf (K : PySem.W.Frag) (H : Hp) : V → Value → Prop where
  | non : TyOf K H .non (.type "NoneType")
  | bl (x : Bool) : TyOf K H (.bl x) (.type "bool")
  | int (i : Int) : TyOf K H (.int i) (.type "int")
  | str (x : Str) : TyOf K H (.str x) (.type "str")
  | flt (x : UInt64) : TyOf K H (.flt x) (.type "float")
  | lst {a : Addr} {xs : List V} (e : H a = some (.lst xs)) : TyOf K H (.ref a) (.type "list")
  | frz {a : Addr} {o : Obj} {xs : List V} (e : H a = some (.frz o (.lst xs))) : TyOf K H (.ref a) (.type "list")
  | tup {a : Addr} {xs : List V} (e : H a = some (.tup xs)) : TyOf K H (.ref a) (.type "tuple")
  | dK {a : Addr} {kvs : List (Key × V)} (e : H a = some (.dK kvs)) : TyOf K H (.ref a) (.type "dict")
  | dT {a : Addr} {kvs : List (List Key × V)} (e : H a = some (.dT kvs)) : TyOf K H (.ref a) (.type "dict")
  | ins {a C dx : Addr} {fs : List (Str × V)} (e : H a = some (.ins C dx fs)) (cl : Cls K C) (ha : PySem.W.findIn K (.ref C) "__class__" = some (some (.builtin "object.__class__")))
      (hn : PySem.W.specialIn K (.builtin "object.__class__") "__get__" = some (some (.builtin "getset_descriptor.__get__"))) (htk : PySem.W.takesIn K (.builtin "object.__class__") = some true)
      (hm : PySem.W.mroIn K C (.type "object") = some true) : TyOf K H (.ref a) (.ref C)
/-- isinstance(x, c) for one class c, a built-in or an own one: kitOne's answer -/
theorem isinst_ok {x : V} {u t : Value} (I : Inv X pins σ H s) (rx : RelV x u) (ty : TyOf X.K H x t) (e : PySem.W.kitOne X.K t c = some b) (h : ∀ tk, Q (.bool b) { s with toks := tk }) :
    wpAny (model X.prog X.w) A (call (.builtin "isinstance") [u, c]) Q E s := by
  cases ty with
  | non => cases (show u = Value.none from rx); exact PySem.W.kia_one PySem.W.kitx_none I.kIn True.intro e (fun z => nomatch z) h
  | bl y => cases (show u = Value.bool y from rx); exact PySem.W.kia_one PySem.W.kitx_bool I.kIn True.intro e (fun z => nomatch z) h
  | int i => obtain ⟨t, q⟩ := (show ∃ t, u = Value.int i t from rx); cases q; exact PySem.W.kia_one PySem.W.kitx_int I.kIn True.intro e (fun z => nomatch z) h
  | str y => obtain ⟨t, q⟩ := (show ∃ t, u = Value.str y t from rx); cases q; exact PySem.W.kia_one PySem.W.kitx_str I.kIn True.intro e (fun z => nomatch z) h
  | flt y => obtain ⟨t, q⟩ := (show ∃ t, u = Value.float y t from rx); cases q; exact PySem.W.kia_one PySem.W.kitx_float I.kIn True.intro e (fun z => nomatch z) h
  | @lst a xs ea =>
    cases (show u = Value.ref a from rx)
    obtain ⟨_, _, n, _, h1⟩ := (show ObjOk X.prog X.w H s.heap a (.lst xs) from I.hok a _ ea)
    exact PySem.W.kia_one PySem.W.kitx_list I.kIn ⟨_, h1, rfl⟩ e (fun z => nomatch z) h
  | @frz a ob xs ea =>
    cases (show u = Value.ref a from rx)
    obtain ⟨_, _, _, n, _, h1⟩ := (show ObjOk X.prog X.w H s.heap a (.frz ob (.lst xs)) from I.hok a _ ea)
    exact PySem.W.kia_one PySem.W.kitx_list I.kIn ⟨_, h1, rfl⟩ e (fun z => nomatch z) h
  | @tup a xs ea =>
    cases (show u = Value.ref a from rx)
    obtain ⟨_, _, _, p⟩ := (show ObjOk X.prog X.w H s.heap a (.tup xs) from I.hok a _ ea)
    obtain ⟨o, h1, h2, _⟩ := p
    exact PySem.W.kia_one PySem.W.kitx_tuple I.kIn ⟨o, h1, h2⟩ e (fun z => nomatch z) h
  | @dK a kvs ea =>
    cases (show u = Value.ref a from rx)
    obtain ⟨_, _, vs, _, p⟩ := (show ObjOk X.prog X.w H s.heap a (.dK kvs) from I.hok a _ ea)
    obtain ⟨o, es, ep, h1, h2, _⟩ := p
    exact PySem.W.kia_one PySem.W.kitx_dict I.kIn ⟨o, h1, h2.1⟩ e (fun z => nomatch z) h
  | @dT a kvs ea =>
    cases (show u = Value.ref a from rx)
    obtain ⟨_, _, xs, _, o, es, ep, h1, h2, _⟩ := (show ObjOk X.prog X.w H s.heap a (.dT kvs) from I.hok a _ ea)
    exact PySem.W.kia_one PySem.W.kitx_dict I.kIn ⟨o, h1, h2.1⟩ e (fun z => nomatch z) h
  | @ins a C dx fs ea cl ha hn htk hm =>
    cases (show u = Value.ref a from rx)
    obtain ⟨mA, O, _⟩ := ins_get I.hok ea
    obtain ⟨od, J, _⟩ := O.look
    exact PySem.W.kia_one (PySem.W.kitx_own (cl.get _) cl.hd ha hn htk hm) I.kIn J e (fun z => nomatch z) h
end
end L2

namespace L2
open PySem PySem.Spec PyProof.Rows

/-! ### room -/
structure Room (k : Nat) (A : Around) : Prop where
  hd : A.handled = none
  dp : A.depth + 3 * k + 5 < recursionLimit
  un : A.units + 16 * k + 200 < cLine
theorem Room.mono {j k : Nat} {A : Around} (r : Room k A) (h : j ≤ k) : Room j A := ⟨r.hd, by have := r.dp; omega, by have := r.un; omega⟩
theorem Room.deeper {k : Nat} {A : Around} (r : Room (k + 1) A) (env : Env) : Room k (A.deeper env) :=
  ⟨r.hd, by have := r.dp; show A.depth + 1 + 3 * k + 5 < _; omega, by have := r.un; show A.units + 3 + 16 * k + 200 < _; omega⟩
theorem Room.in1 {k : Nat} {A : Around} (r : Room (k + 1) A) : Room k A.in1 :=
  ⟨r.hd, by have := r.dp; show A.depth + 3 * k + 5 < _; omega, by have := r.un; show A.units + 1 + 16 * k + 200 < _; omega⟩
theorem Room.depth {k : Nat} {A : Around} (r : Room k A) : A.depth < recursionLimit := by have := r.dp; omega
theorem Room.units {k : Nat} {A : Around} (r : Room k A) : A.units + 64 < cLine := by have := r.un; omega
theorem Room.units0 {k : Nat} {A : Around} (r : Room k A) : A.units < cLine := by have := r.un; omega

/-! ### argument lists and displays -/
def tNil : TA := fun _ H Q => Q [] H
def tCons (ta : TE) (tr : TA) : TA := fun σ H Q => ta σ H fun x H1 => tr σ H1 fun xs H2 => Q (x :: xs) H2
section
variable {X : Cx} {e : Expr} {es : List Expr} {te : TE} {t : TA} {pos : Pos}
theorem pa_nil : PA X [] tNil := fun _ _ _ _ H Q I h => Calls.spliced_nil ⟨[], H, I, .nil, h⟩
theorem pa_cons (ha : PE X e te) (hr : PA X es t) (hs : starEach (e :: es) X.env = (false, eval e X.env) :: starEach es X.env := by rfl) : PA X (e :: es) (tCons te t) := by
  intro pos pins s σ H Q I h
  rw [hs]
  show wpAny _ _ (spliced ((false, eval e X.env) :: backTo pos (starEach es X.env))) _ _ s
  refine Calls.spliced_cons (thn (ha pins s σ H _ I h) fun u s1 ⟨x, H1, I1, r1, q1⟩ => ?_)
  exact thn (hr pos pins s1 σ H1 _ I1 q1) fun us s2 ⟨xs, H2, I2, r2, q2⟩ => ⟨x :: xs, H2, I2, .cons r1 r2, q2⟩

/-- a tuple, a list of written items -/
def tTup (t : TA) : TE := fun σ H Q => t σ H fun xs H1 => xs.length ≤ sizeLine ∧ ∀ p, H1 p = none → Q (.ref p) (upd H1 p (.tup xs))
def tLst (t : TA) : TE := fun σ H Q => t σ H fun xs H1 => xs.length ≤ sizeLine ∧ ∀ p, H1 p = none → Q (.ref p) (upd H1 p (.lst xs))
theorem pe_tup {x1} (h : PA X es t) : PE X (.Tuple es x1 pos) (tTup t) := by
  intro pins s σ H Q I hq
  refine wpAny_Tuple_spliced (thn (h pos pins s σ H _ I hq) fun us s1 ⟨xs, H1, I1, r, z, q⟩ => ⟨by rw [← r.length]; exact z, ?_⟩)
  have hf : H1 s1.heap.objs.size = none := I1.hok.fresh (Nat.le_refl _)
  refine ⟨.ref s1.heap.objs.size, upd H1 s1.heap.objs.size (.tup xs), I1.laid (t' := s1.toks) (fun b u e => Heap.get?_push_of_some _ e) (Nat.le_refl _) ?_, rfl, q _ hf⟩
  exact ⟨z, us, r, ⟨_, Heap.get?_push_size _ rfl, rfl, _, rfl⟩⟩
theorem pe_lst (h : PA X es t) : PE X (.List es pos) (tLst t) := by
  intro pins s σ H Q I hq
  refine wpAny_List_spliced (thn (h pos pins s σ H _ I hq) fun us s1 ⟨xs, H1, I1, r, z, q⟩ => ⟨by rw [← r.length]; exact z, ?_⟩)
  have hf : H1 s1.heap.objs.size = none := I1.hok.fresh (Nat.le_refl _)
  refine ⟨.ref s1.heap.objs.size, upd H1 s1.heap.objs.size (.lst xs), I1.laid (t' := s1.toks) (fun b u e => Heap.get?_push_of_some _ e) (Nat.le_refl _) ?_, rfl, q _ hf⟩
  exact ⟨z, us, 0, r, Heap.get?_push_size _ rfl⟩
end

/-! ### what a def promises -/
/-- a def's promise: the bound arguments in the parameters' order, the heap, the wanted end, the wanted exception -/
abbrev Sp := List V → Hp → VK → XK → Prop
/-- how an exception lies behind a call (file 08 gives it): the callers' frames, abstract heap and state ahead of the call, the wish, the exception, the state -/
abbrev CXT := List Env → Hp → Shared → XK → Value → Shared → Prop

/-- the state at a call -/
structure Env0 (P : Program) (w : World) (K : PySem.W.Frag) (mg : Str → Option Value) (base : Heap) (A : Around) (outer : List Env) (s : Shared) (H : Hp) : Prop where
  frames : A.frames = some outer
  mod : Mod K mg base
  bs : ∀ b o, base.get? b = some o → s.heap.get? b = some o ∧ H b = none
  bsz : base.objs.size ≤ s.heap.objs.size
  funs : s.heap.FunFrames base outer
  frf : ∀ b ∈ frs outer, H b = none
  hok : HOk P w H s.heap
  bare : AllBare s.gens
/-- a call's end -/
def CE (outer : List Env) (P : Program) (w : World) (H : Hp) (s : Shared) (Q : VK) (u : Value) (s' : Shared) : Prop :=
  ∃ v H', s'.os = s.os ∧ AllBare s'.gens ∧ Un (frs outer) [] H H' s.heap s'.heap ∧ HOk P w H' s'.heap ∧ RelV v u ∧ Q v H'
def CR (CX : CXT) (outer : List Env) (P : Program) (w : World) (H : Hp) (s : Shared) (Q : VK) (E : XK) (r : Result) (s' : Shared) : Prop :=
  match r with
  | .ok (.ret u) => CE outer P w H s Q u s'
  | .ok _ => False
  | .error e => CX outer H s E e s'
structure FnOk (P : Program) (w : World) (K : PySem.W.Frag) (mg : Str → Option Value) (base : Heap) (CX : CXT) (k : Nat) (f : Addr) (fd : FuncData) (ps : List Str) (sp : Sp) : Prop where
  len : ∀ vs H Q E, sp vs H Q E → vs.length = ps.length
  run : ∀ (A : Around) (outer : List Env) (s : Shared) (H : Hp) (args : Args) (us : List Value) (vs : List V) (Q : VK) (E : XK), Room k A → Env0 P w K mg base A outer s H → BindsTo s fd args (ps.zip us) → Vals vs us → sp vs H Q E →
    codeAny (model P w) A (.call (.ref f) args) (CR CX outer P w H s Q E) s
section
variable {X : Cx} {pins : List (Addr × Obj)} {σ : St} {H : Hp} {s s' : Shared}
/-- from a body: what a callee wants -/
theorem Inv.env0 (I : Inv X pins σ H s) : Env0 X.prog X.w X.K X.mg X.base X.A X.stack s H :=
  ⟨I.ok.frames, I.ok.mod, I.bs, Nat.le_trans I.ok.bsz I.sz, I.stack, I.stkFree, I.hok, I.bare⟩
/-- behind a call -/
theorem Inv.after {Q : VK} {u : Value} (I : Inv X pins σ H s) (h : CE X.stack X.prog X.w H s Q u s') : EP X pins σ Q u s' := by
  obtain ⟨v, H', os, bare, un, hok, r, q⟩ := h
  obtain ⟨hh, g, d, t, os'⟩ := s'
  obtain rfl : os' = s.os := os
  exact ⟨v, H', I.call (h' := hh) (g' := g) (d' := d) (t' := t) (ch := []) un hok bare (fun b z => absurd z (by simp)), r, q⟩
end

/-! ### calls -/
/-- f(..): the written arguments, then the defaults dvs; E: what is wanted of an exception -/
def tCall (sp : Sp) (dvs : List V) (E : XK) (t : TA) : TE := fun σ H Q => t σ H fun vs H1 => sp (vs ++ dvs) H1 Q E
/-- how the parameters are bound: us the positional arguments, kw the keywords' values by name, ds the defaults that fill up -/
def Binds (K : PySem.W.Frag) (fd : FuncData) (ps : List Str) (ds : List Value) : Prop :=
  ∀ (s : Shared) (us : List Value), K.In s.heap → (us ++ ds).length = ps.length → BindsTo s fd ⟨us, []⟩ (ps.zip (us ++ ds))
/-- every parameter is given -/
theorem Binds.all {K : PySem.W.Frag} {fd : FuncData} {ps : List Str} (h : ∀ us : List Value, us.length = ps.length → bindArgs fd ⟨us, []⟩ = pure (ps.zip us)) : Binds K fd ps [] := fun s us _ hl => by
  rw [List.append_nil] at hl ⊢
  exact .of_eq (h us hl)

/-- an exception of a callee reaches what this body wants of exceptions -/
def Passes (CX : CXT) (X : Cx) (E : XK) : Prop := ∀ (pins : List (Addr × Obj)) (σ : St) (H : Hp) (s : Shared) (e : Value) (s' : Shared), Inv X pins σ H s → CX X.stack H s E e s' → X.xe e s'

section
variable {X : Cx} {CX : CXT} {k : Nat} {f C : Addr} {fd : FuncData} {ps : List Str} {sp : Sp} {dvs : List V} {ds : List Value} {E : XK} {x m : Str} {p pos apos : Pos} {e o : Expr} {es : List Expr} {ta : TE} {t : TA}

/-- the callee runs -/
theorem run_fn {pins : List (Addr × Obj)} {σ : St} {H : Hp} {s : Shared} {Q : VK} {us : List Value} {vs : List V} (F : FnOk X.prog X.w X.K X.mg X.base CX k f fd ps sp) (hr : Room k X.A) (hb : Binds X.K fd ps ds) (hd : Vals dvs ds) (hx : Passes CX X E)
    (I : Inv X pins σ H s) (r : Vals vs us) (h : sp (vs ++ dvs) H Q E) : wpAny (model X.prog X.w) X.A (call (.ref f) us) (EP X pins σ Q) X.xe s := by
  have r2 : Vals (vs ++ dvs) (us ++ ds) := r.append hd
  have hl : (us ++ ds).length = ps.length := by rw [← r2.length]; exact F.len _ _ _ _ h
  refine wpAny_call (codeAny_mono (F.run X.A X.stack s H ⟨us, []⟩ (us ++ ds) (vs ++ dvs) Q E hr I.env0 (hb s us I.kIn hl) r2 h) fun r s' hq => ?_)
  cases r with
  | error e => exact hx pins σ H s e s' I hq
  | ok fl =>
    cases fl with
    | ret u => exact I.after hq
    | next => exact False.elim hq
    | brk => exact False.elim hq
    | cont => exact False.elim hq

theorem pe_call (F : FnOk X.prog X.w X.K X.mg X.base CX k f fd ps sp) (hr : Room k X.A) (hg : Gl X x) (hm : X.mg x = some (.ref f)) (hk : PySem.W.keepIn X.K (.ref f) = true) (hb : Binds X.K fd ps ds) (hd : Vals dvs ds) (hx : Passes CX X E)
    (ha : PA X (e :: es) t) (hdb : (x == ("__debug__" : Str)) = false := by decide) (he : starEach (e :: es) X.env = (false, eval e X.env) :: starEach es X.env := by rfl) (hpl : (backTo pos (starEach es X.env)).any (·.1) = false := by rfl) :
    PE X (.Call (.Name x p) (e :: es) [] pos) (tCall sp dvs E t) := by
  intro pins s σ H Q I h
  refine wpAny_Call_Name_kw (ld_glob I hg hm ?_ hdb)
  refine PySem.W.callWith_K (h₀ := X.base) I.ok.mod.kin hk (thn (ha pos pins s σ H _ I h) fun us s1 ⟨vs, H1, I1, r, q⟩ => ⟨I1.kIn, ?_⟩) he hpl
  exact run_fn F hr hb hd hx I1 r q
end

/-! ### keywords -/
section
variable {X : Cx} {CX : CXT} {k : Nat} {f C : Addr} {fd : FuncData} {ps ks : List Str} {sp : Sp} {E : XK} {x m : Str} {p pos apos kpos : Pos} {e o : Expr} {es : List Expr} {kws : List Keyword} {te ta : TE} {t tk : TA} {nm : Option Str}
variable {g : List Value → List Value → List Value} {gV : List V → List V → List V}
end

/-! ### a def's body keeps its promise -/
/-- names: the parameters first -/
structure FnScope (N P : List Str) (sc : Scope) : Prop where
  kind : sc.kind = .function
  co : sc.isCoroutine = false
  gen : sc.isGenerator = false
  nd : N.Nodup
  pre : N.take P.length = P
  par : ∀ x ∈ P, sc.names.lookup x = some .local ∨ sc.names.lookup x = some .cell
  nofree : ∀ y ∈ sc.names, y.2 ≠ .free

theorem bindL_out {kindOf : Str → Option NameKind} {x : Str} : ∀ {binds : List (Str × Value)} {m : Str → Option Value}, (∀ v, (x, v) ∉ binds) → bindL kindOf binds m x = m x
  | [], _, _ => rfl
  | (n, v) :: r, m, h => by
    unfold bindL
    rw [bindL_out fun w hw => h w (List.mem_cons_of_mem _ hw)]
    split
    · have : x ≠ n := by rintro rfl; exact h v List.mem_cons_self
      simp [this]
    · rfl
theorem bindC_out {kindOf : Str → Option NameKind} {x : Str} : ∀ {binds : List (Str × Value)} {m : Str → Option Value}, (∀ v, (x, v) ∉ binds) → bindC kindOf binds m x = m x
  | [], _, _ => rfl
  | (n, v) :: r, m, h => by
    unfold bindC
    rw [bindC_out fun w hw => h w (List.mem_cons_of_mem _ hw)]
    split
    · rfl
    · have : x ≠ n := by rintro rfl; exact h v List.mem_cons_self
      simp [this]
theorem bindL_get {kindOf : Str → Option NameKind} {x : Str} {v : Value} : ∀ {P : List Str} {vs : List Value} {i : Nat} {m : Str → Option Value}, P.Nodup → P[i]? = some x → vs[i]? = some v → kindOf x = some .local →
    bindL kindOf (P.zip vs) m x = some v
  | [], _, _, _, _, h, _, _ => by simp at h
  | _ :: _, [], _, _, _, _, h, _ => by simp at h
  | p :: P, w :: vs, 0, m, nd, h1, h2, hk => by
    simp at h1 h2; subst h1; subst h2
    show bindL kindOf ((p, w) :: P.zip vs) m p = _
    unfold bindL
    rw [bindL_out fun v hv => (List.nodup_cons.mp nd).1 (List.of_mem_zip hv).1, if_pos hk]
    simp
  | p :: P, w :: vs, i + 1, m, nd, h1, h2, hk => by
    show bindL kindOf ((p, w) :: P.zip vs) m x = _
    unfold bindL
    exact bindL_get (i := i) (List.nodup_cons.mp nd).2 (by simpa using h1) (by simpa using h2) hk
theorem bindC_get {kindOf : Str → Option NameKind} {x : Str} {v : Value} : ∀ {P : List Str} {vs : List Value} {i : Nat} {m : Str → Option Value}, P.Nodup → P[i]? = some x → vs[i]? = some v → kindOf x ≠ some .local →
    bindC kindOf (P.zip vs) m x = some v
  | [], _, _, _, _, h, _, _ => by simp at h
  | _ :: _, [], _, _, _, _, h, _ => by simp at h
  | p :: P, w :: vs, 0, m, nd, h1, h2, hk => by
    simp at h1 h2; subst h1; subst h2
    show bindC kindOf ((p, w) :: P.zip vs) m p = _
    unfold bindC
    rw [bindC_out fun v hv => (List.nodup_cons.mp nd).1 (List.of_mem_zip hv).1, if_neg hk]
    simp
  | p :: P, w :: vs, i + 1, m, nd, h1, h2, hk => by
    show bindC kindOf ((p, w) :: P.zip vs) m x = _
    unfold bindC
    exact bindC_get (i := i) (List.nodup_cons.mp nd).2 (by simpa using h1) (by simpa using h2) hk

/-- the names' values at the entry -/
def start (N : List Str) (vs : List V) : St := vs.map some ++ List.replicate (N.length - vs.length) none

/-- the context of a def's body, at its entry; an exception leaves the frame, then lies as CX says -/
def cxOf (CX : CXT) (P : Program) (w : World) (K : PySem.W.Frag) (mg : Str → Option Value) (base : Heap) (N : List Str) (qual : Str) (scope : Scope) (f : Addr) (cd : Value) (A : Around) (outer : List Env) (s : Shared) (H : Hp) (E : XK) : Cx where
  prog := P
  w := w
  K := K
  mg := mg
  base := base
  A := A.deeper (envOfC qual scope s.heap.objs.size f cd)
  N := N
  s₀ := s
  H₀ := H
  env := envOfC qual scope s.heap.objs.size f cd
  outer := outer
  stack := envOfC qual scope s.heap.objs.size f cd :: outer
  ex := []
  calm := true
  fn := fun _ => true
  pn := []
  xe := fun e s' => wpAny (model P w) (A.deeper (envOfC qual scope s.heap.objs.size f cd)) (leaving (envOfC qual scope s.heap.objs.size f cd) e) (fun _ s'' => CX outer H s E e s'') (fun e' s'' => CX outer H s E e' s'') s'

theorem cell_has {sc : Scope} {n : Nat} {x : Str} (h : sc.names.lookup x = some .cell) : ∃ c, (cellsFrom n sc.names []).lookup x = some c := by
  have q := PySem.W.cellsFrom_some sc.names n [] (.inl h)
  exact Option.isSome_iff_exists.mp q

theorem inv_start {CX : CXT} {P : Program} {w : World} {K : PySem.W.Frag} {mg : Str → Option Value} {base : Heap} {N ps : List Str} {qual : Str} {scope : Scope} {f : Addr} {cd : Value} {A : Around} {outer : List Env} {s s1 : Shared} {H : Hp} {E : XK} {us : List Value} {vs : List V}
    (S : FnScope N ps scope) (hd : A.handled = none) (e0 : Env0 P w K mg base A outer s H) (hl : vs.length = ps.length) (r : Vals vs us)
    (x : InCallC s s.heap.objs.size (bindL (envOfC qual scope s.heap.objs.size f cd).kindOf (ps.zip us) fun _ => none) (cellsFrom (s.heap.objs.size + 1) scope.names []) (bindC (envOfC qual scope s.heap.objs.size f cd).kindOf (ps.zip us) fun _ => none) s1) :
    Inv (cxOf CX P w K mg base N qual scope f cd A outer s H E) [] (start N vs) H s1 := by
  have hpl : ps.length ≤ N.length := by have := congrArg List.length S.pre; rw [List.length_take] at this; omega
  obtain ⟨h1, tk, rfl, hk⟩ := x.done
  have noA : ∀ b : Addr, b ∉ (cxOf CX P w K mg base N qual scope f cd A outer s H E).ex := fun b z => absurd (show b ∈ ([] : List Addr) from z) (by simp)
  refine ⟨⟨e0.mod, S.kind, rfl, rfl, Nat.le_refl _, fun y z c h1 h2 => ?_, fun y hy => ?_, fun y c _ h => ?_, fun _ => hd, Around.frames_deeper e0.frames, .inr ⟨rfl, rfl⟩, fun b z => absurd z (noA b), e0.bs, e0.bsz, fun b _ _ => noA b, fun b z => absurd z (noA b), e0.funs, e0.frf⟩,
    rfl, e0.bare, Un.kept hk, ⟨_, x.toInCall.ns, fun i y v h1 h2 h3 => ?_⟩, fun y c h => ⟨_, x.cell y c h⟩, e0.hok.fresh (Nat.le_refl _), fun y c h => ?_, fun p hp => absurd (show p ∈ ([] : List (Addr × Obj)) from hp) (by simp), e0.hok.kept hk, ?_⟩
  · exact name_of_addr x.apart (PySem.mem_of_lookup h1) (PySem.mem_of_lookup h2)
  · have hy : scope.names.lookup y = some .cell ∨ scope.names.lookup y = some .free := hy
    rcases hy with hy | hy
    · exact cell_has hy
    · exact absurd rfl (S.nofree _ (PySem.mem_of_lookup hy))
  · exact Nat.le_of_lt (x.above y c (PySem.mem_of_lookup h))
  · have hi : i < vs.length := by
      unfold start at h2
      by_cases hi : i < vs.length
      · exact hi
      · rw [List.getElem?_append_right (by simpa using hi)] at h2
        rw [List.getElem?_replicate] at h2
        split at h2 <;> cases h2
    have ha : vs[i]? = some v := by
      unfold start at h2
      rw [List.getElem?_append_left (by simpa using hi), List.getElem?_map] at h2
      cases e : vs[i]? with
      | none => rw [e] at h2; cases h2
      | some a => rw [e] at h2; cases h2; rfl
    obtain ⟨u, hu, rv⟩ := r.get ha
    have hp : ps[i]? = some y := by
      rw [← S.pre, List.getElem?_take_of_lt (by omega)]; exact h1
    have ndP : ps.Nodup := by rw [← S.pre]; exact S.nd.sublist (List.take_sublist _ _)
    refine ⟨u, rv, ?_⟩
    rcases S.par y (List.mem_of_getElem? hp) with k | k
    · exact .inl ⟨k, bindL_get ndP hp hu k⟩
    · obtain ⟨c, e⟩ := cell_has (n := s.heap.objs.size + 1) k
      refine .inr ⟨.inl k, c, e, ?_⟩
      have q := x.cell y c e
      rw [bindC_get ndP hp hu (by show scope.names.lookup y ≠ _; rw [k]; decide)] at q
      exact q
  · exact e0.hok.fresh (Nat.le_of_lt (x.above y c (PySem.mem_of_lookup h)))
  · unfold start
    show _ = N.length
    rw [List.length_append, List.length_map, List.length_replicate]
    omega

/-- THE RULE: a def (or a method) of the text, by its body. The body's reading t is chosen for each entry; it is run at the parameters' values -/
theorem fn_of {CX : CXT} {P : Program} {w : World} {K : PySem.W.Frag} {mg : Str → Option Value} {base : Heap} {k : Nat} {f : Addr} {name qual : Str} {params : Arguments} {body : List Stmt} {scope : Scope} {dV kV doc pm cdv ct oc : Value} {an od : Option Addr}
    {osl : Array (Option Value)} {N ps : List Str} {sp : Sp} (lk : K.lookup f = some ⟨oc, od, .func (PySem.W.fnOf name qual params body scope dV kV doc pm an cdv ct), osl⟩) (hcd : PySem.W.codeIn K cdv qual = true) (S : FnScope N ps scope)
    (len : ∀ vs H Q E, sp vs H Q E → vs.length = ps.length)
    (hbody : ∀ (A : Around) (outer : List Env) (s : Shared) (H : Hp) (vs : List V) (Q : VK) (E : XK), Room k (A.deeper (envOfC qual scope s.heap.objs.size f cdv)) → sp vs H Q E →
      ∃ t, PSs (cxOf CX P w K mg base N qual scope f cdv A outer s H E) body t ∧ t { nx := fun _ H' => Q .non H', rt := Q } (start N vs) H) :
    FnOk P w K mg base CX (k + 1) f (PySem.W.fnOf name qual params body scope dV kV doc pm an cdv ct) ps sp := by
  refine ⟨len, fun A outer s H args us vs Q E hr e0 hb r hsp => ?_⟩
  have hl := len _ _ _ _ hsp
  have KX : K.In s.heap := e0.mod.kin.keeps fun b o e => (e0.bs b o e).1
  have lim : s.heap.NoLimit := e0.mod.nolimit.keeps fun b o e => (e0.bs b o e).1
  have hkind : ∀ y ∈ ps.zip us, scope.names.lookup y.1 = some .local ∨ (scope.names.lookup y.1 = some .cell ∧ ((cellsFrom (s.heap.objs.size + 1) scope.names []).lookup y.1).isSome = true) := fun ⟨n, v⟩ hy => by
    rcases S.par n (List.of_mem_zip hy).1 with q | q
    · exact .inl q
    · exact .inr ⟨q, PySem.W.cellsFrom_some _ _ _ (.inl q)⟩
  refine codeAny_call_function hr.depth (KX _ _ lk) rfl S.co S.gen rfl (PySem.W.codeRec_of KX hcd) (hb _ _ _ _ ?_)
  refine wpAny_newFunctionEnv_cells S.kind hkind fun env he s1 x => ?_
  subst he
  refine ⟨lim.keeps x.toInCall.keep, codeAny_func ?_⟩
  obtain ⟨t, ht, hq⟩ := hbody A outer s H vs Q E (hr.deeper _) hsp
  have I : Inv (cxOf CX P w K mg base N qual scope f cdv A outer s H E) [] (start N vs) H s1 := inv_start S hr.hd e0 hl r x
  refine wpAny_mono (ht [] s1 (start N vs) H _ I hq) (fun fl s' hs => ?_) fun e s' hs => hs
  have fin : ∀ {σ' : St} {H' : Hp} {v : V} {u : Value}, Inv (cxOf CX P w K mg base N qual scope f cdv A outer s H E) [] σ' H' s' → RelV v u → Q v H' → CE outer P w H s Q u s' :=
    fun {σ' H' v u} J rv q => ⟨v, H', J.os, J.bare, J.base, J.hok, rv, q⟩
  cases fl with
  | ret u =>
    obtain ⟨v, σ', H', J, rv, q⟩ := hs
    exact fin J rv q
  | next =>
    obtain ⟨σ', H', J, q⟩ := hs
    exact fin (v := V.non) (u := Value.none) J rfl q
  | brk =>
    obtain ⟨_, _, _, q⟩ := hs
    exact False.elim q
  | cont =>
    obtain ⟨_, _, _, q⟩ := hs
    exact False.elim q
end L2

namespace L2
open PySem PySem.Spec PyProof.Rows
section
variable {X : Cx} {x : Str} {p pos : Pos} {e : Expr} {es : List Expr} {t : TA} {id T : String} {r : List V → Hp → VK → Prop}

def tCB (r : List V → Hp → VK → Prop) (t : TA) : TE := fun σ H Q => t σ H fun vs H1 => r vs H1 Q
/-- f(e, ..), f a built-in function -/
theorem pe_callB (hc : CallR X (.builtin id) r) (hg : Gl X x) (hm : X.mg x = none) (hv : bootBuiltins x = some (.builtin id)) (ha : PA X (e :: es) t) (hn : x ≠ "__name__" := by decide) (hdb : (x == ("__debug__" : Str)) = false := by decide)
    (he : starEach (e :: es) X.env = (false, eval e X.env) :: starEach es X.env := by rfl) (hpl : (backTo pos (starEach es X.env)).any (·.1) = false := by rfl) : PE X (.Call (.Name x p) (e :: es) [] pos) (tCB r t) := by
  intro pins s σ H Q I h
  refine wpAny_Call_Name_kw (ld_blt I hg hm hv ?_ hn hdb)
  exact PyProof.Rows.callWith_builtin1 (thn (ha pos pins s σ H _ I h) fun us s1 ⟨vs, H1, I1, r1, q1⟩ => hc pins s1 σ H1 vs us Q I1 r1 q1) he hpl
/-- T(e, ..), T a built-in type -/
theorem pe_callTy (hc : CallR X (.type T) r) (hg : Gl X x) (hm : X.mg x = none) (hv : bootBuiltins x = some (.type T)) (ha : PA X (e :: es) t) (hn : x ≠ "__name__" := by decide) (hdb : (x == ("__debug__" : Str)) = false := by decide)
    (he : starEach (e :: es) X.env = (false, eval e X.env) :: starEach es X.env := by rfl) (hpl : (backTo pos (starEach es X.env)).any (·.1) = false := by rfl) : PE X (.Call (.Name x p) (e :: es) [] pos) (tCB r t) := by
  intro pins s σ H Q I h
  refine wpAny_Call_Name_kw (ld_blt I hg hm hv ?_ hn hdb)
  exact PyProof.Rows.callWith_type1 (thn (ha pos pins s σ H _ I h) fun us s1 ⟨vs, H1, I1, r1, q1⟩ => hc pins s1 σ H1 vs us Q I1 r1 q1) he hpl
end
end L2

namespace HT
open PySem PyProof.Rows

/-- t < u of tuples of ints -/
def lexLt : List Int → List Int → Bool
  | [], [] => false
  | [], _ :: _ => true
  | _ :: _, [] => false
  | x :: xs, y :: ys => if x = y then lexLt xs ys else decide (x < y)
theorem lexLt_cons (x y : Int) (xs ys : List Int) : lexLt (x :: xs) (y :: ys) = if x = y then lexLt xs ys else decide (x < y) := rfl
theorem lexLt_nil_nil : lexLt [] [] = false := rfl
theorem lexLt_nil_cons (y : Int) (ys : List Int) : lexLt [] (y :: ys) = true := rfl
theorem lexLt_cons_nil (x : Int) (xs : List Int) : lexLt (x :: xs) [] = false := rfl

theorem eqAt_int (A : Around) (s : Shared) (a : Int) (t : Tok) (c : Int) (u : Tok) : ∃ e, SeqAt.EqAt A s (.int a t) (.int c u) e ∧ (e = true ↔ a = c) :=
  ⟨(a == c), SeqAt.EqAt.int_int a t c u, by simp⟩
theorem rcLt_int (A : Around) (s : Shared) (a : Int) (t : Tok) (c : Int) (u : Tok) (prog : Program) (w : World) (E : Value → Shared → Prop) (Q : Value → Shared → Prop) (h : Q (.bool (decide (a < c))) s) :
    wpAny (model prog w) A (richCompare .Lt (.int a t) (.int c u)) Q E s :=
  (PyProof.Rows.lt_int h : wpAny (model prog w) A (compareOp .Lt (.int a t) (.int c u)) Q E s)

section
open PySem.SeqAt
open PySem.AutoSeq1 (wpAny_loadPart')
open PySem.MeetsSeq PySem.MeetsSeq2 PySem.MeetsSeq3

theorem tuple_lt_ints (l b : Addr) (items items2 : Array Value) (n n2 : Nat) (dd dd2 : Option Addr) (sl sl2 : Array (Option Value)) (ns ms : List Int) (hi : IntsAre items.toList ns) (hj : IntsAre items2.toList ms) :
    Meets (Builtin.«tuple.__lt__» ⟨[.ref l, .ref b], []⟩)
      (fun _ R s => s.heap.get? l = some { cls := .type "tuple", dict := dd, data := .seq items n, slots := sl } ∧ s.heap.get? b = some { cls := .type "tuple", dict := dd2, data := .seq items2 n2, slots := sl2 } ∧
        R (.ok (.ret (.bool (lexLt ns ms)))) s) :=
  .of_wp fun prog w A R s h => by
    obtain ⟨hp, g, d, tk, os⟩ := s; obtain ⟨hl, hb, h⟩ := h
    have f2 := AutoSeq1.sub_tuple_tuple
    have z1 : items.size = ns.length := by rw [← hi.length]; simp
    have z2 : items2.size = ms.length := by rw [← hj.length]; simp
    wp_walk using wpAny_loadPart' hl, wpAny_loadPart' hb, wpAny_forIn_list _ (fun rest b s' => b.1 = none ∧ s' = ⟨hp, g, d, tk, os⟩ ∧ ∃ (vs ws : List Value) (ns' ms' : List Int), rest = vs.zip ws ∧
      IntsAre vs ns' ∧ IntsAre ws ms' ∧ ns'.length + items2.size = ms'.length + items.size ∧ R (.ok (.ret (.bool (lexLt ns' ms')))) ⟨hp, g, d, tk, os⟩) _
    case turn =>
      rintro ⟨y, x⟩ rest b s' ⟨hb', rfl, vs, ws, ns', ms', hz, hvi, hwi, hlen, hR⟩
      cases hvi with
      | nil => rw [List.zip_nil_left] at hz; cases hz
      | cons a t hvi' =>
        cases hwi with
        | nil => rw [List.zip_nil_right] at hz; cases hz
        | cons c u hwi' =>
          rw [List.zip_cons_cons] at hz
          injection hz with hyx hrest
          injection hyx with hy hx
          subst hy hx
          rw [lexLt_cons] at hR
          simp only [List.length_cons] at hlen
          obtain ⟨e, he, hiff⟩ := eqAt_int A.in1 ⟨hp, g, d, tk, os⟩ a t c u
          refine wpAny_bind (he prog w _ _ ?_)
          cases e with
          | true =>
            rw [if_pos (hiff.mp rfl)] at hR
            wp_walk
            exact ⟨rfl, rfl, _, _, _, _, hrest, hvi', hwi', by omega, hR⟩
          | false =>
            rw [if_neg (fun q => absurd (hiff.mpr q) Bool.false_ne_true)] at hR
            have hri := rcLt_int A.in1 ⟨hp, g, d, tk, os⟩ a t c u prog w
            wp_walk using hri
            exact ⟨_, rfl, by simpa using hR⟩
    case fin =>
      rintro ⟨b1, b2⟩ s' ⟨hb', rfl, vs, ws, ns', ms', hz, hvi, hwi, hlen, hR⟩
      simp only at hb'
      subst hb'
      have hv : lexLt ns' ms' = decide (items.size < items2.size) := by
        cases hvi with
        | nil =>
          cases hwi with
          | nil =>
            simp only [List.length_nil] at hlen
            rw [lexLt_nil_nil]
            exact (decide_eq_false (by omega)).symm
          | cons c u hw =>
            simp only [List.length_nil, List.length_cons] at hlen
            rw [lexLt_nil_cons]
            exact (decide_eq_true (by omega)).symm
        | cons a t hv =>
          cases hwi with
          | nil =>
            simp only [List.length_nil, List.length_cons] at hlen
            rw [lexLt_cons_nil]
            exact (decide_eq_false (by omega)).symm
          | cons c u hw =>
            rw [List.zip_cons_cons] at hz
            cases hz
      rw [hv] at hR
      wp_walk
      exact ⟨_, rfl, by simpa [Builtin.Tuple.tupleCompareSizes] using hR⟩
    case h =>
      exact ⟨rfl, rfl, items.toList, items2.toList, ns, ms, rfl, hi, hj, by omega, h⟩
end

section
variable {prog : Program} {w : World} {A : Around} {E : Value → Shared → Prop} {s : Shared}

theorem lt_tupInts {l b : Addr} {items items2 : Array Value} {ns ms : List Int} {Q : Value → Shared → Prop} (hl : IsTup s.heap l items) (hb : IsTup s.heap b items2) (hi : IntsAre items.toList ns) (hj : IntsAre items2.toList ms)
    (hu : A.units < cLine) (h : Q (.bool (lexLt ns ms)) s) : wpAny (model prog w) A (compareOp .Lt (.ref l) (.ref b)) Q E s := by
  obtain ⟨⟨cls, dd, data, sl⟩, ho, hc, n, hd⟩ := id hl
  obtain ⟨⟨cls2, dd2, data2, sl2⟩, ho2, hc2, n2, hd2⟩ := id hb
  simp only at hc hd hc2 hd2
  subst hc hd hc2 hd2
  exact richCompare_meets_room (op := .Lt) ⟨_, ho, rfl⟩ ⟨_, ho2, rfl⟩ PySem.F.slot_tuple_lt PySem.F.entry_tuple_lt (PySem.F.args_tuple_lt_2 _ _) (tuple_lt_ints l b items items2 n n2 dd dd2 sl sl2 ns ms hi hj)
    ⟨ho, ho2, show Value.bool (lexLt ns ms) ≠ Value.notImplemented ∧ Q (.bool (lexLt ns ms)) s from ⟨(fun x => nomatch x), h⟩⟩ hu

/-- t + u, t not empty -/
theorem cat_tup {t b : Addr} {vs ws : List Value} {Q : Value → Shared → Prop} (ht : IsTup s.heap t vs.toArray) (hb : IsTup s.heap b ws.toArray) (hv : vs ≠ [])
    (h1 : ws = [] → Q (.ref t) s) (h2 : ws ≠ [] → Q (.ref s.heap.objs.size) { s with heap := s.heap.push { cls := .type "tuple", data := .seq (vs ++ ws).toArray } })
    (hsz : vs.length + ws.length ≤ sizeLine) : wpAny (model prog w) A (binaryOp .Add (.ref t) (.ref b)) Q E s := by
  obtain ⟨⟨cls, dd, data, sl⟩, ho, hc, n, hd⟩ := id ht
  obtain ⟨⟨cls2, dd2, data2, sl2⟩, ho2, hc2, n2, hd2⟩ := id hb
  simp only at hc hd hc2 hd2
  subst hc hd hc2 hd2
  have e : vs.toArray ++ ws.toArray = (vs ++ ws).toArray := by simp
  by_cases hw : ws = []
  · exact concat_meets ⟨_, ho, rfl⟩ ⟨_, ho2, rfl⟩ noFill_tuple_add seq_tuple_add PySem.F.slot_tuple_add PySem.F.entry_tuple_add (PySem.F.args_tuple_add_2 _ _)
      (tuple_addW1 t b vs.toArray ws.toArray n n2 dd dd2 sl sl2 (by simpa using hv) (by simp [hw])) ⟨ho, ho2, h1 hw⟩
  · refine concat_meets ⟨_, ho, rfl⟩ ⟨_, ho2, rfl⟩ noFill_tuple_add seq_tuple_add PySem.F.slot_tuple_add PySem.F.entry_tuple_add (PySem.F.args_tuple_add_2 _ _)
      (tuple_addW2 t b vs.toArray ws.toArray n n2 dd dd2 sl sl2 (by simpa using hv) (by simpa using hw) (by rw [List.size_toArray, List.size_toArray]; exact hsz)) ⟨ho, ho2, ?_⟩
    rw [e]
    exact h2 hw

/-! ### t[a:b], not the whole -/
/-- a slice's bound as a place among n (d where it is left out) -/
def sIx (n d : Nat) : Option Int → Nat
  | none => d
  | some v => if v < 0 then (v + (n : Int)).toNat else min v.toNat n
theorem sIx_nat (n d k : Nat) : sIx n d (some (k : Int)) = min k n := by
  show (if (k : Int) < 0 then ((k : Int) + (n : Int)).toNat else min (k : Int).toNat n) = min k n
  rw [if_neg (by omega), Int.toNat_natCast]
theorem sIx_le (n d : Nat) (hd : d ≤ n) (o : Option Int) : sIx n d o ≤ n := by
  cases o with
  | none => exact hd
  | some v =>
    show (if v < 0 then (v + (n : Int)).toNat else min v.toNat n) ≤ n
    by_cases hv : v < 0
    · rw [if_pos hv]; omega
    · rw [if_neg hv]; exact Nat.min_le_right _ _
theorem clip_eq (v : Int) (n d : Nat) : (if v < 0 then max (v + (n : Int)) 0 else min v (n : Int)) = ((sIx n d (some v) : Nat) : Int) := by
  show (if v < 0 then max (v + (n : Int)) 0 else min v (n : Int)) = (((if v < 0 then (v + (n : Int)).toNat else min v.toNat n) : Nat) : Int)
  by_cases hv : v < 0
  · simp only [if_pos hv]; omega
  · simp only [if_neg hv]; omega
theorem adjust_gen (lo hi : Option Int) (n : Nat) : Builtin.Slice.sliceAdjust lo hi 1 (n : Int) = (((sIx n 0 lo : Nat) : Int), ((sIx n n hi : Nat) : Int)) := by
  have h1 : ¬ ((1 : Int) < 0) := by omega
  unfold Builtin.Slice.sliceAdjust
  simp only [h1, if_false]
  refine Prod.ext ?_ ?_
  · cases lo with
    | none => rfl
    | some v => exact clip_eq v n 0
  · cases hi with
    | none => rfl
    | some v => exact clip_eq v n n
theorem places_gen (i j : Nat) : Builtin.Slice.slicePlaces (i : Int) (j : Int) 1 = j - i := by
  unfold Builtin.Slice.slicePlaces
  have h1 : (1 : Int) > 0 := by omega
  simp only [h1, if_true, Int.ediv_one]
  split <;> omega
theorem slicePart_ {v : Value} {o : Option Int} {Q : Option Int → Shared → Prop} (p : IsPart v o) (h : Q o s) : wpAny (model prog w) A (Builtin.Slice.slicePartIndex v) Q E s := by
  cases p with
  | none => exact slicePart_none h
  | int i t => exact slicePart_int h
theorem sliceApplied_gen {sl : Addr} {vl vu : Value} {lo hi : Option Int} {n : Nat} {Q : Int × Int × Nat → Shared → Prop} (hs : s.heap.IsSliceOf sl vl vu .none) (pl : IsPart vl lo) (pu : IsPart vu hi)
    (h : Q (((sIx n 0 lo : Nat) : Int), 1, sIx n n hi - sIx n 0 lo) s) : wpAny (model prog w) A (Builtin.Slice.sliceApplied (.ref sl) (pure (n : Int))) Q E s := by
  obtain ⟨os, hos, hcs, hds⟩ := id hs
  unfold Builtin.Slice.sliceApplied Builtin.Slice.sliceFields
  refine wpAny_bind (wpAny_bind (wpAny_field hos hds (x := vl) rfl (wpAny_bind (wpAny_field hos hds (x := vu) rfl (wpAny_bind (wpAny_field hos hds (x := .none) rfl (wpAny_pure ?_)))))))
  refine wpAny_bind (slicePart_none ?_)
  show wpAny _ _ (if ((1 : Int) == 0) = true then _ else _) _ _ s
  rw [if_neg (by decide)]
  refine wpAny_bind (slicePart_ pl (wpAny_bind (slicePart_ pu (wpAny_bind (wpAny_pure ?_)))))
  show wpAny _ _ (match Builtin.Slice.sliceAdjust lo hi 1 (n : Int) with | (lo, hi) => pure (lo, (1 : Int), Builtin.Slice.slicePlaces lo hi 1)) _ _ s
  rw [adjust_gen lo hi n]
  show wpAny _ _ (pure (((sIx n 0 lo : Nat) : Int), (1 : Int), Builtin.Slice.slicePlaces ((sIx n 0 lo : Nat) : Int) ((sIx n n hi : Nat) : Int) 1)) _ _ s
  rw [places_gen]
  exact wpAny_pure h
theorem pick_gen (xs : Array Value) (i k : Nat) : ((List.range k).filterMap fun (m : Nat) => xs[((i : Int) + (m : Int) * 1).toNat]?).toArray = ((xs.toList.drop i).take k).toArray := by
  have e : (fun (m : Nat) => xs[((i : Int) + (m : Int) * 1).toNat]?) = fun m => xs[i + m]? := by
    funext m
    have : ((i : Int) + (m : Int) * 1).toNat = i + m := by omega
    rw [this]
  rw [e]
  have := pick_run xs i k
  rw [List.filterMap_map] at this
  have e2 : ((fun x => xs[x]?) ∘ fun x => i + x) = fun m => xs[i + m]? := rfl
  rw [e2] at this
  rw [this]

theorem getItem_tuple_cut {t sl : Addr} {items : Array Value} {vl vu : Value} {lo hi : Option Int} {Q : Value → Shared → Prop} (ht : IsTup s.heap t items) (hs : s.heap.IsSliceOf sl vl vu .none) (pl : IsPart vl lo) (pu : IsPart vu hi)
    (hw : ¬ (sIx items.size 0 lo = 0 ∧ sIx items.size items.size hi = items.size))
    (h : Q (.ref s.heap.objs.size) { s with heap := s.heap.push { cls := .type "tuple", data := .seq ((items.toList.drop (sIx items.size 0 lo)).take (sIx items.size items.size hi - sIx items.size 0 lo)).toArray } })
    (hsz : items.size ≤ sizeLine) : wpAny (model prog w) A (getItem (.ref t) (.ref sl)) Q E s := by
  have htake : sizeOk (.seq ((items.toList.drop (sIx items.size 0 lo)).take (sIx items.size items.size hi - sIx items.size 0 lo)).toArray) := by
    show ((items.toList.drop (sIx items.size 0 lo)).take (sIx items.size items.size hi - sIx items.size 0 lo)).toArray.size ≤ sizeLine
    rw [List.size_toArray, List.length_take, List.length_drop, Array.length_toList]
    omega
  have hj : sIx items.size items.size hi ≤ items.size := sIx_le _ _ (Nat.le_refl _) hi
  obtain ⟨os, hos, hcs, hds⟩ := id hs
  have hTs : s.TypeIs (.ref sl) "slice" := ⟨os, hos, hcs⟩
  unfold getItem
  try with_reducible refine wpAny_holding ?_
  first | refine wpAny_bind (wpAny_pure ?_) | skip
  refine wpAny_bind (wpAny_sequenceKey ht.typeIs (by decide) ?_)
  refine wpAny_bind (wpAny_callSpecial?_slot (name := Str.ofString "__getitem__") ht.typeIs PyProof.Rows.slot_tuple_getitem
    (wpAny_call_entry PyProof.Rows.slot_tuple_getitem ht.typeIs entry_tuple_getitem ?_ (args_tuple_getitem _ _)))
  show wpAny _ _ (Builtin.Tuple.tupleItemsOf (.ref t) >>= _) _ _ s
  refine wpAny_bind (tupleItemsOf_ ht ?_)
  refine wpAny_bind (wpAny_typeOf hTs ?_)
  rw [if_pos (by decide)]
  refine wpAny_bind (sliceApplied_gen hs pl pu ?_)
  have hno : ¬ ((((sIx items.size 0 lo : Nat) : Int) == 0 && (1 : Int) == 1 && (sIx items.size items.size hi - sIx items.size 0 lo) == items.size) = true) := by
    intro q
    rw [Bool.and_eq_true, Bool.and_eq_true] at q
    have q1 : ((sIx items.size 0 lo : Nat) : Int) = 0 := eq_of_beq q.1.1
    have q2 : sIx items.size items.size hi - sIx items.size 0 lo = items.size := eq_of_beq q.2
    exact hw ⟨by omega, by omega⟩
  show wpAny _ _ (if (((sIx items.size 0 lo : Nat) : Int) == 0 && (1 : Int) == 1 && (sIx items.size items.size hi - sIx items.size 0 lo) == items.size) = true then _ else _) _ _ s
  rw [if_neg hno, pick_gen]
  first
    | exact wpAny_bind (m := Builtin.Tuple.tupleExact _) (wpAny_newObj_type (wpAny_pure ⟨_, rfl, wpAny_pure h⟩) htake)
    | exact wpAny_bind (m := Builtin.Tuple.tupleExact _) (wpAny_newObj_type (wpAny_bind (wpAny_pure (wpAny_pure ⟨_, rfl, wpAny_pure h⟩))) htake)
    | exact wpAny_bind (wpAny_bind (m := Builtin.Tuple.tupleExact _) (wpAny_newObj_type (wpAny_pure (wpAny_pure ⟨_, rfl, wpAny_pure h⟩)) htake))
    | exact wpAny_bind (wpAny_bind (m := Builtin.Tuple.tupleExact _) (wpAny_newObj_type (wpAny_pure ⟨_, rfl, wpAny_pure h⟩) htake))
end
end HT

namespace L2
open PySem PySem.Spec PyProof.Rows

/-! ### the parts of a slice -/
abbrev TO := St → Hp → (Option Int → Hp → Prop) → Prop
/-- a slice's part (left out, or an int) -/
def PO (X : Cx) (e : Option Expr) (t : TO) : Prop :=
  ∀ (pins : List (Addr × Obj)) (s : Shared) (σ : St) (H : Hp) (Q : Option Int → Hp → Prop), Inv X pins σ H s → t σ H Q →
    wpAny (model X.prog X.w) X.A (evalPart e X.env) (fun u s' => ∃ o H', Inv X pins σ H' s' ∧ IsPart u o ∧ Q o H') X.xe s
def tNoPart : TO := fun _ H Q => Q none H
def tPart (t : TE) : TO := fun σ H Q => t σ H fun x H1 => ∃ i, x = .int i ∧ Q (some i) H1

theorem intsAre_of {ns : List Int} : ∀ {us : List Value}, Vals (ns.map V.int) us → IntsAre us ns := by
  induction ns with
  | nil => intro us r; rw [List.map_nil] at r; cases r; exact .nil
  | cons n ns ih =>
    intro us r
    rw [List.map_cons] at r
    cases r with
    | cons r1 r2 =>
      obtain ⟨t, e⟩ := r1
      subst e
      exact .cons n t (ih r2)

section
variable {X : Cx} {e : Expr} {te : TE} {lo hi : Option Expr} {tl th : TO} {pos p2 : Pos}

theorem po_none : PO X none tNoPart := by
  intro pins s σ H Q I h
  rw [evalPart_none]
  exact wpAny_pure ⟨none, H, I, .none, h⟩
theorem po_some (h : PE X e te) : PO X (some e) (tPart te) := by
  intro pins s σ H Q I hw
  rw [evalPart_some]
  refine thn (h pins s σ H _ I hw) fun u s1 ⟨x, H1, I1, r1, q1⟩ => ?_
  obtain ⟨i, rfl, q⟩ := q1
  obtain ⟨t, rfl⟩ := r1
  exact ⟨some i, H1, I1, .int i t, q⟩

/-- what a slice of a value is, by values: the slice object stands at sl -/
def SlR (X : Cx) (r : V → Option Int → Option Int → Hp → VK → Prop) : Prop :=
  ∀ (pins : List (Addr × Obj)) (s : Shared) (σ : St) (H : Hp) (x : V) (v vl vu : Value) (lo hi : Option Int) (sl : Addr) (Q : VK), Inv X pins σ H s → RelV x v → s.heap.IsSliceOf sl vl vu .none → IsPart vl lo → IsPart vu hi → r x lo hi H Q →
    ∃ T id, typeLookup (.type T) "__getitem__" = pure (some (.builtin id)) ∧ s.TypeIs v T ∧ wpAny (model X.prog X.w) X.A (getItem v (.ref sl)) (EP X pins σ Q) X.xe s
def tSl (r : V → Option Int → Option Int → Hp → VK → Prop) (te : TE) (tl th : TO) : TE := fun σ H Q => te σ H fun x H1 => tl σ H1 fun l H2 => th σ H2 fun u H3 => r x l u H3 Q
/-- a[lo:hi], any a -/
theorem pe_slice {r : V → Option Int → Option Int → Hp → VK → Prop} (hr : SlR X r) (he : PE X e te) (hl : PO X lo tl) (hu : PO X hi th) : PE X (.Subscript e (.Slice lo hi none p2) pos) (tSl r te tl th) := by
  intro pins s σ H Q I h
  refine Subscript_ (thn (he pins s σ H _ I h) fun v s1 ⟨x, H1, I1, r1, q1⟩ => ?_)
  refine wpAny_Slice (thn (hl pins s1 σ H1 _ I1 q1) fun vl s2 ⟨l, H2, I2, pl, q2⟩ => thn (hu pins s2 σ H2 _ I2 q2) fun vu s3 ⟨u, H3, I3, pu, q3⟩ => ?_)
  rw [evalPart_none]
  refine wpAny_pure ?_
  have I4 : Inv X pins σ H3 { s3 with heap := s3.heap.push { cls := .type "slice", data := .fields #[vl, vu, .none] } } := I3.kept (t' := s3.toks) fun b ob q => Heap.get?_push_of_some _ q
  obtain ⟨T, id, hT, ht, hg⟩ := hr pins { s3 with heap := s3.heap.push { cls := .type "slice", data := .fields #[vl, vu, .none] } } σ H3 x v vl vu l u s3.heap.objs.size Q I4 r1 (Heap.IsSliceOf.new ..) pl pu q3
  show wpAny (model X.prog X.w) X.A (subscriptTail e (.Slice lo hi none p2) v (.ref s3.heap.objs.size)) (EP X pins σ Q) X.xe { s3 with heap := s3.heap.push { cls := .type "slice", data := .fields #[vl, vu, .none] } }
  exact tail_any (ops := [.ref s3.heap.objs.size, v]) ht hT hg (by with_unfolding_all rfl)

/-- the items of xs[lo:hi] -/
def cutV (xs : List V) (lo hi : Option Int) : List V := (xs.drop (HT.sIx xs.length 0 lo)).take (HT.sIx xs.length xs.length hi - HT.sIx xs.length 0 lo)
theorem cutV_length (xs : List V) (lo hi : Option Int) : (cutV xs lo hi).length ≤ xs.length := by
  unfold cutV
  rw [List.length_take, List.length_drop]
  omega
/-- t[lo:hi], not the whole of it (the whole would be t itself) -/
def rSlT (K : PySem.W.Frag) : V → Option Int → Option Int → Hp → VK → Prop := fun x lo hi H Q => ∃ a xs, x = .ref a ∧ SqT K H a xs ∧
  ¬ (HT.sIx xs.length 0 lo = 0 ∧ HT.sIx xs.length xs.length hi = xs.length) ∧ ∀ p, H p = none → Q (.ref p) (upd H p (.tup (cutV xs lo hi)))
theorem sl_tup : SlR X (rSlT X.K) := by
  intro pins s σ H x v vl vu lo hi sl Q I rx hs pl pu h
  obtain ⟨a, xs, rfl, hx, hw, q⟩ := h
  cases rx
  obtain ⟨its, r, ht, hz⟩ := I.tuple hx
  have hlen : its.toArray.size = xs.length := by rw [List.size_toArray]; exact r.length.symm
  refine ⟨"tuple", _, PyProof.Rows.slot_tuple_getitem.lookup, ht.typeIs, ?_⟩
  refine HT.getItem_tuple_cut ht hs pl pu (by rw [hlen]; exact hw) ?_ (by rw [hlen]; exact hz)
  rw [hlen]
  refine ⟨.ref s.heap.objs.size, _, I.laid (t' := s.toks) (o := .tup (cutV xs lo hi)) (fun b ob q => Heap.get?_push_of_some _ q) (Nat.le_refl _) ?_, rfl, q _ (I.hok.fresh (Nat.le_refl _))⟩
  exact ⟨Nat.le_trans (cutV_length xs lo hi) hz, _, (r.drop (HT.sIx xs.length 0 lo)).take (HT.sIx xs.length xs.length hi - HT.sIx xs.length 0 lo), IsTup.new _ _⟩

/-! ### t < u, t + u -/
/-- t + u, t not empty: u empty gives t itself -/
def rCatT (K : PySem.W.Frag) : R2 := fun x y H Q => ∃ a b xs ys, x = .ref a ∧ y = .ref b ∧ SqT K H a xs ∧ SqT K H b ys ∧ xs ≠ [] ∧ xs.length + ys.length ≤ sizeLine ∧
  (ys = [] → Q (.ref a) H) ∧ (ys ≠ [] → ∀ p, H p = none → Q (.ref p) (upd H p (.tup (xs ++ ys))))
theorem Vals.nil_iff {xs : List V} {us : List Value} (r : Vals xs us) : us = [] ↔ xs = [] := by
  cases r with
  | nil => simp
  | cons _ _ => simp
theorem op_catT : OpR X (binaryOp .Add) (rCatT X.K) := by
  intro pins s σ H x y v u Q I rx ry h
  obtain ⟨a, b, xs, ys, rfl, rfl, ha, hb, hx, hz, q1, q2⟩ := h
  cases rx
  cases ry
  obtain ⟨its, r1, p1, _⟩ := I.tuple ha
  obtain ⟨its2, r2, p2, _⟩ := I.tuple hb
  refine HT.cat_tup p1 p2 (fun z => hx (r1.nil_iff.mp z)) (fun z => ⟨.ref a, H, I, rfl, q1 (r2.nil_iff.mp z)⟩) (fun z => ?_) (by rw [← r1.length, ← r2.length]; exact hz)
  refine ⟨.ref s.heap.objs.size, _, I.laid (t' := s.toks) (o := .tup (xs ++ ys)) (fun b ob q => Heap.get?_push_of_some _ q) (Nat.le_refl _) ?_, rfl, q2 (fun w => z (r2.nil_iff.mpr w)) _ (I.hok.fresh (Nat.le_refl _))⟩
  exact ⟨by rw [List.length_append]; exact hz, _, r1.append r2, IsTup.new _ _⟩
end
end L2

namespace L2
open PySem PySem.Spec PyProof.Rows

/-! ### places -/
/-- the place that an index of any sign means -/
def ixN (n : Nat) (i : Int) : Option Nat := if 0 ≤ i then (if i < n then some i.toNat else none) else if -(n : Int) ≤ i then some (i + n).toNat else none
def atI {α : Type} (xs : List α) (i : Int) : Option α := (ixN xs.length i).bind fun j => xs[j]?
theorem ixN_seq {n : Nat} {i : Int} {j : Nat} (h : ixN n i = some j) : seqIndex? i n = some j ∧ j < n ∧ -(n : Int) ≤ i ∧ i < n := by
  unfold ixN at h
  by_cases h0 : 0 ≤ i
  · rw [if_pos h0] at h
    by_cases h1 : i < n
    · rw [if_pos h1] at h
      have e : i.toNat = j := Option.some.inj h
      exact ⟨by rw [seqIndex_of h0 h1, e], by omega, by omega, h1⟩
    · rw [if_neg h1] at h; cases h
  · rw [if_neg h0] at h
    by_cases h1 : -(n : Int) ≤ i
    · rw [if_pos h1] at h
      have e : (i + n).toNat = j := Option.some.inj h
      exact ⟨by rw [seqIndex_neg (by omega) h1, e], by omega, h1, by omega⟩
    · rw [if_neg h1] at h; cases h
theorem atI_get {α : Type} {xs : List α} {i : Int} {v : α} (h : atI xs i = some v) : ∃ j, seqIndex? i xs.length = some j ∧ xs[j]? = some v ∧ j < xs.length ∧ -(xs.length : Int) ≤ i ∧ i < xs.length := by
  unfold atI at h
  cases e : ixN xs.length i with
  | none => rw [e] at h; cases h
  | some j =>
    rw [e] at h
    obtain ⟨h1, h2, h3, h4⟩ := ixN_seq e
    exact ⟨j, h1, h, h2, h3, h4⟩
theorem atI_nat {α : Type} {xs : List α} {j : Nat} {v : α} (h : xs[j]? = some v) : atI xs (j : Int) = some v := by
  have hj : j < xs.length := (List.getElem?_eq_some_iff.mp h).1
  have e : ixN xs.length (j : Int) = some j := by
    unfold ixN
    rw [if_pos (by omega), if_pos (by omega)]; simp
  unfold atI; rw [e]; exact h
/-! ### what may be subscripted -/
/-- what stands as an index of a plain subscript -/
def PlainIx (b : Expr) : Prop := ∀ o i, subscripted b false o i = operate [o, i] (getItem o i)
/-- a subscript by values -/
def IxR (X : Cx) (r : R2) : Prop :=
  ∀ (value slice : Expr) (pins : List (Addr × Obj)) (s : Shared) (σ : St) (H : Hp) (x y : V) (v u : Value) (Q : VK), Inv X pins σ H s → RelV x v → RelV y u → r x y H Q →
    subscripted slice false v u = operate [v, u] (getItem v u) → wpAny (model X.prog X.w) X.A (subscriptTail value slice v u) (EP X pins σ Q) X.xe s
/-- a call of a builtin's method by values: the receiver, the arguments -/
def MtR (X : Cx) (id : String) (r : V → List V → Hp → VK → Prop) : Prop :=
  ∀ (pins : List (Addr × Obj)) (s : Shared) (σ : St) (H : Hp) (x : V) (xs : List V) (v : Value) (us : List Value) (Q : VK), Inv X pins σ H s → RelV x v → Vals xs us → r x xs H Q →
    wpAny (model X.prog X.w) X.A (call (.builtin id) (v :: us)) (EP X pins σ Q) X.xe s
section
variable {X : Cx} {a b : Expr} {ta tb : TE} {pos : Pos}
/-- a[b] -/
theorem pe_ix {r : R2} (hr : IxR X r) (ha : PE X a ta) (hb : PE X b tb) (hs : PlainIx b) : PE X (.Subscript a b pos) (tOp r ta tb) := by
  intro pins s σ H Q I h
  exact Subscript_ (binT ha hb I h fun v u s2 x y H2 I2 rx ry q => hr a b pins s2 σ H2 x y v u Q I2 rx ry q (hs _ _))

def rIxL (K : PySem.W.Frag) : R2 := fun x y H Q => ∃ p xs i v, x = .ref p ∧ y = .int i ∧ SqL K H p xs ∧ atI xs i = some v ∧ Q v H
def rIxT (K : PySem.W.Frag) : R2 := fun x y H Q => ∃ p xs i v, x = .ref p ∧ y = .int i ∧ SqT K H p xs ∧ atI xs i = some v ∧ Q v H
def rIxS : R2 := fun x y H Q => ∃ z i c, x = .str z ∧ y = .int i ∧ z.length ≤ sizeLine ∧ atI z.cps.toList i = some c ∧ Q (.str ⟨#[c]⟩) H
theorem ix_list : IxR X (rIxL X.K) := by
  intro value slice pins s σ H x y v u Q I rx ry h hs
  obtain ⟨p, xs, i, z, rfl, rfl, hq, he, q⟩ := h
  cases rx
  obtain ⟨t, rfl⟩ := ry
  obtain ⟨its, r, pl, hz⟩ := I.list hq
  obtain ⟨j, h1, h2, h3, h4, h5⟩ := atI_get he
  obtain ⟨w, ew, rw'⟩ := r.get h2
  have hl := r.length
  have hn := line63
  have fin : EP X pins σ Q w s := ⟨z, H, I, rw', q⟩
  by_cases h0 : 0 ≤ i
  · have hj : i.toNat = j := by
      rw [seqIndex_of h0 h5] at h1
      exact Option.some.inj h1
    exact item_listR pl.isList h0 (by omega) (by rw [hj]; simpa using ew) fin hs
  · have hj : (i + (its.toArray.size : Int)).toNat = j := by
      rw [seqIndex_neg (by omega) h4] at h1
      rw [List.size_toArray, ← hl]
      exact Option.some.inj h1
    exact subscriptTail_builtinR (x := w) pl.isList.typeIs slot_list_getitem.lookup
      (wpAny_getItem_list_neg (Q := fun r s' => r = w ∧ EP X pins σ Q r s') pl.isList (by omega) (by rw [List.size_toArray] <;> omega) (by omega) (by rw [hj]; simpa using ew) ⟨rfl, fin⟩) hs
theorem ix_tup : IxR X (rIxT X.K) := by
  intro value slice pins s σ H x y v u Q I rx ry h hs
  obtain ⟨p, xs, i, z, rfl, rfl, hq, he, q⟩ := h
  cases rx
  obtain ⟨t, rfl⟩ := ry
  obtain ⟨its, r, pl, hz⟩ := I.tuple hq
  obtain ⟨j, h1, h2, h3, h4, h5⟩ := atI_get he
  obtain ⟨w, ew, rw'⟩ := r.get h2
  have hl := r.length
  have hn := line63
  have fin : EP X pins σ Q w s := ⟨z, H, I, rw', q⟩
  exact subscriptTail_builtinR (x := w) pl.typeIs slot_tuple_getitem.lookup
    (getItem_tuple (j := j) (Q := fun r s' => r = w ∧ EP X pins σ Q r s') pl (by omega) (by omega) (by rw [List.size_toArray, ← hl]; exact h1) (by simpa using ew) ⟨rfl, fin⟩) hs
theorem ix_str : IxR X rIxS := by
  intro value slice pins s σ H x y v u Q I rx ry h hs
  obtain ⟨z, i, c, rfl, rfl, hz, he, q⟩ := h
  obtain ⟨t, rfl⟩ := rx
  obtain ⟨t', rfl⟩ := ry
  obtain ⟨j, h1, h2, h3, h4, h5⟩ := atI_get he
  have hl : z.cps.toList.length = z.length := by simp [Str.length]
  rw [hl] at h1 h4 h5
  have hn := line63
  exact tail_any (typeIs_str s z t) slot_str_getitem.lookup (getItem_str (c := c) (by
    have e1 : decide (i < -(2 ^ 63 : Int)) = false := decide_eq_false (by omega)
    have e2 : decide (i ≥ 2 ^ 63) = false := decide_eq_false (by omega)
    rw [e1, e2, Bool.or_false]) (by rw [h1]; simpa using h2) ⟨.str ⟨#[c]⟩, H, I.tok _, ⟨_, rfl⟩, q⟩) hs
/-! ### xs[i] = v, any sign -/
/-- the list's object behind a store -/
theorem mapSeq_set (its : List Value) (n j : Nat) (u : Value) : Obj.mapSeq (·.setIfInBounds j u) { cls := .type "list", data := .seq its.toArray n } = { cls := .type "list", data := .seq (its.set j u).toArray n } := by
  simp [Obj.mapSeq]
theorem Inv.lst {pins : List (Addr × Obj)} {σ : St} {H : Hp} {s : Shared} {p : Addr} {xs : List V} (I : Inv X pins σ H s) (h : H p = some (.lst xs)) :
    ∃ (its : List Value) (n : Nat), Vals xs its ∧ s.heap.get? p = some { cls := .type "list", data := .seq its.toArray n } ∧ xs.length ≤ sizeLine := by
  obtain ⟨z, its, n, r, e⟩ := I.hok p _ h
  exact ⟨its, n, r, e, z⟩
/-- the list at p is written by an update of its object -/
theorem Inv.lstUpd {pins : List (Addr × Obj)} {σ : St} {H : Hp} {s : Shared} {p : Addr} {xs ys : List V} {its its' : List Value} {n n' : Nat} {f : Obj → Obj} (I : Inv X pins σ H s) (h : H p = some (.lst xs))
    (ho : s.heap.get? p = some { cls := .type "list", data := .seq its.toArray n }) (hf : f { cls := .type "list", data := .seq its.toArray n } = { cls := .type "list", data := .seq its'.toArray n' }) (r : Vals ys its') (hz : ys.length ≤ sizeLine) (t : Nat) :
    Inv X pins σ (upd H p (.lst ys)) { s with heap := s.heap.update p f, toks := t } := by
  have e : (s.heap.update p f).get? p = some { cls := .type "list", data := .seq its'.toArray n' } := by
    rw [Heap.get?_update_self f ho (by rw [hf] <;> rfl), hf]
  refine I.write (x := p) (e := p) (by rw [h]; trivial) (.inl rfl) (fun b u hb q => (Heap.get?_update_other _ _ (Ne.symm hb)).trans q) ⟨_, e⟩ ?_
  exact ⟨hz, its', n', r, e⟩
def rSetL : V → V → V → Hp → (Hp → Prop) → Prop := fun o i v H Q => ∃ p xs k j, o = .ref p ∧ i = .int k ∧ H p = some (.lst xs) ∧ ixN xs.length k = some j ∧ Q (upd H p (.lst (xs.set j v)))
theorem set_list : PSet X rSetL := by
  intro pins s σ H o i v ov iv u Q I ro ri rv h
  obtain ⟨p, xs, k, j, rfl, rfl, hp, hj, q⟩ := h
  cases ro
  obtain ⟨t, rfl⟩ := ri
  obtain ⟨its, n, r, ho, hz⟩ := I.lst hp
  obtain ⟨h1, h2, h3, h4⟩ := ixN_seq hj
  have hl := r.length
  have hn := line63
  have I' : Inv X pins σ (upd H p (.lst (xs.set j v))) { s with heap := s.heap.update p (Obj.mapSeq (·.setIfInBounds j u)) } :=
    I.lstUpd hp ho (mapSeq_set its n j u) (r.set rv j) (by rw [List.length_set]; exact hz) s.toks
  by_cases h0 : 0 ≤ k
  · have hk : k.toNat = j := by
      rw [seqIndex_of h0 h4] at h1
      exact Option.some.inj h1
    exact PySem.W.ki_setAt ho h0 (by omega) (by rw [List.size_toArray, ← hl]; exact h4) (by rw [hk]; exact ⟨_, I', q⟩)
  · have hk : (k + (its.toArray.size : Int)).toNat = j := by
      rw [seqIndex_neg (by omega) h3] at h1
      rw [List.size_toArray, ← hl]
      exact Option.some.inj h1
    exact PySem.W.ki_setBack ho (by omega) (by rw [List.size_toArray, ← hl]; exact h3) (by omega) (by rw [hk]; exact ⟨_, I', q⟩)

/-! ### slices -/
theorem slice_bounds (lo hi : Option Int) (n : Nat) : (sliceBounds lo hi none n).1 = ((HT.sIx n 0 lo : Nat) : Int) ∧ (sliceBounds lo hi none n).2.1 = ((HT.sIx n n hi : Nat) : Int) ∧ (sliceBounds lo hi none n).2.2 = 1 := by
  refine ⟨?_, ?_, rfl⟩
  · cases lo with
    | none => simp [sliceBounds, HT.sIx]
    | some i =>
      simp only [sliceBounds, HT.sIx, Option.getD_none, show (1 : Int) > 0 by decide, if_true]
      by_cases h : i < 0
      · simp only [h, if_true] <;> omega
      · simp only [h, if_false] <;> omega
  · cases hi with
    | none => simp [sliceBounds, HT.sIx]
    | some i =>
      simp only [sliceBounds, HT.sIx, Option.getD_none, show (1 : Int) > 0 by decide, if_true]
      by_cases h : i < 0
      · simp only [h, if_true] <;> omega
      · simp only [h, if_false] <;> omega
theorem slicePick_cut (its : List Value) (lo hi : Option Int) : slicePick its.toArray lo hi none = ((its.drop (HT.sIx its.length 0 lo)).take (HT.sIx its.length its.length hi - HT.sIx its.length 0 lo)).toArray := by
  obtain ⟨h1, h2, h3⟩ := slice_bounds lo hi its.toArray.size
  unfold slicePick
  rw [h1, h2, h3]
  simp only [sliceRange_one, pick_run, List.size_toArray] <;> rfl
/-- xs[lo:hi] of a list: a new list -/
def rSlL (K : PySem.W.Frag) : V → Option Int → Option Int → Hp → VK → Prop := fun x lo hi H Q => ∃ a xs, x = .ref a ∧ SqL K H a xs ∧ ∀ p, H p = none → Q (.ref p) (upd H p (.lst (cutV xs lo hi)))
theorem sl_list : SlR X (rSlL X.K) := by
  intro pins s σ H x v vl vu lo hi sl Q I rx hs pl pu h
  obtain ⟨a, xs, rfl, hx, q⟩ := h
  cases rx
  obtain ⟨its, r, ht, hz⟩ := I.list hx
  have hlen := r.length
  refine ⟨"list", _, slot_list_getitem.lookup, ht.isList.typeIs, ?_⟩
  refine wpAny_getItem_list_slice ht.isList hs pl pu .none (by simp) ?_ (by rw [List.size_toArray] <;> omega)
  rw [slicePick_cut, ← hlen]
  refine ⟨.ref s.heap.objs.size, _, I.laid (t' := s.toks) (o := .lst (cutV xs lo hi)) (fun b ob q => Heap.get?_push_of_some _ q) (Nat.le_refl _) ?_, rfl, q _ (I.hok.fresh (Nat.le_refl _))⟩
  exact ⟨Nat.le_trans (cutV_length xs lo hi) hz, _, 0, (r.drop (HT.sIx xs.length 0 lo)).take (HT.sIx xs.length xs.length hi - HT.sIx xs.length 0 lo), Heap.get?_push_size _ rfl⟩

/-! ### in, not in: flat items -/
def flatV : V → Bool
  | .non => true
  | .bl _ => true
  | .int _ => true
  | .str _ => true
  | _ => false
/-- == of flat values -/
def eqV : V → V → Bool
  | .non, .non => true
  | .bl a, .bl b => a == b
  | .bl a, .int b => (if a then 1 else 0) == b
  | .int a, .bl b => a == (if b then 1 else 0)
  | .int a, .int b => a == b
  | .str a, .str b => a == b
  | _, _ => false
theorem eqAt_V {A : Around} {s : Shared} {y x : V} {u v : Value} (ry : RelV y u) (rx : RelV x v) (fy : flatV y = true) (fx : flatV x = true) : SeqAt.EqAt A s u v (eqV y x) := by
  cases y with
  | non =>
    cases ry
    cases x with
    | non => cases rx; exact SeqAt.EqAt.same _
    | bl b => cases rx; exact SeqAt.EqAt.none_bool b
    | int b => obtain ⟨t, rfl⟩ := rx; exact SeqAt.EqAt.none_int b t
    | str b => obtain ⟨t, rfl⟩ := rx; exact SeqAt.EqAt.none_str b t
    | _ => exact absurd (show false = true from fx) Bool.false_ne_true
  | bl a =>
    cases ry
    cases x with
    | non => cases rx; exact SeqAt.EqAt.bool_none a
    | bl b => cases rx; exact SeqAt.EqAt.bool_bool a b
    | int b => obtain ⟨t, rfl⟩ := rx; exact SeqAt.EqAt.bool_int a b t
    | str b => obtain ⟨t, rfl⟩ := rx; exact SeqAt.EqAt.bool_str a b t
    | _ => exact absurd (show false = true from fx) Bool.false_ne_true
  | int a =>
    obtain ⟨t', rfl⟩ := ry
    cases x with
    | non => cases rx; exact SeqAt.EqAt.int_none a t'
    | bl b => cases rx; exact SeqAt.EqAt.int_bool a t' b
    | int b => obtain ⟨t, rfl⟩ := rx; exact SeqAt.EqAt.int_int a t' b t
    | str b => obtain ⟨t, rfl⟩ := rx; exact SeqAt.EqAt.int_str a t' b t
    | _ => exact absurd (show false = true from fx) Bool.false_ne_true
  | str a =>
    obtain ⟨t', rfl⟩ := ry
    cases x with
    | non => cases rx; exact SeqAt.EqAt.str_none a t'
    | bl b => cases rx; exact SeqAt.EqAt.str_bool a t' b
    | int b => obtain ⟨t, rfl⟩ := rx; exact SeqAt.EqAt.str_int a t' b t
    | str b => obtain ⟨t, rfl⟩ := rx; exact SeqAt.EqAt.str_str a t' b t
    | _ => exact absurd (show false = true from fx) Bool.false_ne_true
  | _ => exact absurd (show false = true from fy) Bool.false_ne_true
/-- the items' answers, read off the values (a value's own answer does not lean on its token) -/
def eqU (x : V) (u : Value) : Bool := match u with
  | .none => eqV .non x
  | .bool b => eqV (.bl b) x
  | .int i _ => eqV (.int i) x
  | .str z _ => eqV (.str z) x
  | _ => false
theorem eqU_of {x y : V} {u : Value} (r : RelV y u) (f : flatV y = true) : eqU x u = eqV y x := by
  cases y with
  | non => cases r; rfl
  | bl b => cases r; rfl
  | int i => obtain ⟨t, rfl⟩ := r; rfl
  | str z => obtain ⟨t, rfl⟩ := r; rfl
  | _ => exact absurd (show false = true from f) Bool.false_ne_true
theorem any_eqU {x : V} : ∀ {xs : List V} {us : List Value}, Vals xs us → xs.all flatV = true → us.any (eqU x) = xs.any fun y => eqV y x
  | _, _, .nil, _ => rfl
  | y :: xs, u :: us, .cons r t, f => by
    rw [List.all_cons, Bool.and_eq_true] at f
    rw [List.any_cons, List.any_cons, eqU_of r f.1, any_eqU t f.2]
theorem mem_eqAt {A : Around} {s : Shared} {x : V} {v : Value} (rx : RelV x v) (fx : flatV x = true) : ∀ {xs : List V} {us : List Value}, Vals xs us → xs.all flatV = true → ∀ u ∈ us, SeqAt.EqAt A s u v (eqU x u)
  | _, _, .nil, _ => fun u hu => by cases hu
  | y :: xs, u :: us, .cons r t, f => fun u' hu => by
    rw [List.all_cons, Bool.and_eq_true] at f
    rcases List.mem_cons.mp hu with rfl | hu
    · rw [eqU_of r f.1]; exact eqAt_V r rx f.1 fx
    · exact mem_eqAt rx fx t f.2 u' hu
def inV (x : V) (xs : List V) : Bool := xs.any fun y => eqV y x
/-- x in a list or tuple of flat items -/
def rIn (K : PySem.W.Frag) (neg : Bool) : R2 := fun x y H Q => ∃ p xs, y = .ref p ∧ (SqL K H p xs ∨ SqT K H p xs) ∧ flatV x = true ∧ xs.all flatV = true ∧ Q (.bl (if neg then !inV x xs else inV x xs)) H
theorem op_in_seq : OpR X (compareOp .In) (rIn X.K false) := by
  intro pins s σ H x y v u Q I rx ry h
  obtain ⟨p, xs, rfl, hq, fx, fs, q⟩ := h
  cases ry
  rcases hq with hq | hq
  · obtain ⟨its, r, pl, hz⟩ := I.list hq
    refine SeqAt.in_listAt (eqU x) pl.isList (fun w hw => mem_eqAt rx fx r fs w (by simpa using hw)) ⟨.bl _, H, I, rfl, ?_⟩
    rw [show its.toArray.any (eqU x) = its.any (eqU x) by simp, any_eqU r fs]
    exact q
  · obtain ⟨its, r, pl, hz⟩ := I.tuple hq
    refine SeqAt.in_tupleAt (eqU x) pl (fun w hw => mem_eqAt rx fx r fs w (by simpa using hw)) ⟨.bl _, H, I, rfl, ?_⟩
    rw [show its.toArray.any (eqU x) = its.any (eqU x) by simp, any_eqU r fs]
    exact q
theorem op_notIn_seq : OpR X (compareOp .NotIn) (rIn X.K true) := by
  intro pins s σ H x y v u Q I rx ry h
  obtain ⟨p, xs, rfl, hq, fx, fs, q⟩ := h
  cases ry
  rcases hq with hq | hq
  · obtain ⟨its, r, pl, hz⟩ := I.list hq
    refine SeqAt.notIn_listAt (eqU x) pl.isList (fun w hw => mem_eqAt rx fx r fs w (by simpa using hw)) ⟨.bl _, H, I, rfl, ?_⟩
    rw [show its.toArray.any (eqU x) = its.any (eqU x) by simp, any_eqU r fs]
    exact q
  · obtain ⟨its, r, pl, hz⟩ := I.tuple hq
    refine SeqAt.notIn_tupleAt (eqU x) pl (fun w hw => mem_eqAt rx fx r fs w (by simpa using hw)) ⟨.bl _, H, I, rfl, ?_⟩
    rw [show its.toArray.any (eqU x) = its.any (eqU x) by simp, any_eqU r fs]
    exact q
/-! ### len, list(x), tuple(x) of any list or tuple that is read -/
theorem call_len_seq : CallR X (.builtin "len") (fun xs H Q => ∃ p ys, xs = [.ref p] ∧ (SqL X.K H p ys ∨ SqT X.K H p ys) ∧ Q (.int ys.length) H) := by
  intro pins s σ H xs us Q I r h
  obtain ⟨p, ys, rfl, hq, q⟩ := h
  obtain ⟨u, rfl, rx⟩ := vals1 r
  cases rx
  have hn := line63
  rcases hq with hq | hq
  · obtain ⟨its, r', pl, hz⟩ := I.list hq
    have hlen := r'.length
    exact Calls.call_len_list pl.isList (by simp only [List.size_toArray] <;> omega) ⟨.int ys.length, H, I.tok _, ⟨s.toks + 1, by rw [List.size_toArray, hlen]⟩, q⟩
  · obtain ⟨its, r', pl, hz⟩ := I.tuple hq
    have hlen := r'.length
    exact len_tuple pl (by simp only [List.size_toArray] <;> omega) ⟨.int ys.length, H, I.tok _, ⟨s.toks + 1, by rw [List.size_toArray, hlen]⟩, q⟩
theorem call_list_of : CallR X (.type "list") (fun xs H Q => ∃ p ys, xs = [.ref p] ∧ (SqL X.K H p ys ∨ SqT X.K H p ys) ∧ ∀ l, H l = none → Q (.ref l) (upd H l (.lst ys))) := by
  intro pins s σ H xs us Q I r h
  obtain ⟨p, ys, rfl, hq, q⟩ := h
  obtain ⟨u, rfl, rx⟩ := vals1 r
  cases rx
  have fin : ∀ (its : List Value), Vals ys its → ys.length ≤ sizeLine → ∀ (h' : Heap) (c' : Nat), (∀ b o', s.heap.get? b = some o' → h'.get? b = some o') →
      h'.get? s.heap.objs.size = some { cls := .type "list", dict := none, data := .seq its.toArray c', slots := #[] } → EP X pins σ Q (.ref s.heap.objs.size) { s with heap := h' } := fun its r' hz h' c' kp e =>
    ⟨.ref s.heap.objs.size, _, I.laid (t' := s.toks) kp (Nat.le_refl _) (show ObjOk X.prog X.w _ h' _ (.lst ys) from ⟨hz, its, c', r', e⟩), rfl, q _ (I.hok.fresh (Nat.le_refl _))⟩
  rcases hq with hq | hq
  · obtain ⟨its, r', pl, hz⟩ := I.list hq
    have hlen := r'.length
    obtain ⟨o, ho, hc, n, hd⟩ := pl.isList
    exact call_list_seq p (.inl rfl) ho hc hd (fun h' c' kp e => fin its r' hz h' c' kp e) (by simp only [List.size_toArray] <;> omega)
  · obtain ⟨its, r', pl, hz⟩ := I.tuple hq
    have hlen := r'.length
    obtain ⟨o, ho, hc, n, hd⟩ := pl
    exact call_list_seq p (.inr rfl) ho hc hd (fun h' c' kp e => fin its r' hz h' c' kp e) (by simp only [List.size_toArray] <;> omega)
/-! ### the call of a builtin's method: o.m(..) -/
/-- the value is of that builtin type -/
def tyV (K : PySem.W.Frag) (T : String) (x : V) (H : Hp) : Prop := match x with
  | .str _ => T = "str"
  | .int _ => T = "int"
  | .ref p => (T = "list" ∧ ∃ xs, SqL K H p xs) ∨ (T = "tuple" ∧ ∃ o, K.lookup p = some o ∧ o.cls = .type "tuple" ∧ o.dict = none) ∨
      (T = "dict" ∧ ((∃ kvs, H p = some (.dK kvs)) ∨ ∃ kvs, H p = some (.dT kvs))) ∨ (T = "set" ∧ ∃ S n, H p = some (.set S n))
  | _ => False
theorem tyV_is {pins : List (Addr × Obj)} {σ : St} {H : Hp} {s : Shared} {T : String} {x : V} {v : Value} (I : Inv X pins σ H s) (r : RelV x v) (ty : tyV X.K T x H) :
    s.TypeIs v T ∧ ∀ a, v = .ref a → ∃ ob, s.heap.get? a = some ob ∧ ob.dict = none := by
  cases x with
  | str z =>
    obtain ⟨t, rfl⟩ := r
    cases (show T = "str" from ty)
    exact ⟨typeIs_str s z t, fun _ e => nomatch e⟩
  | int i =>
    obtain ⟨t, rfl⟩ := r
    cases (show T = "int" from ty)
    exact ⟨typeIs_int s i t, fun _ e => nomatch e⟩
  | ref p =>
    cases r
    rcases ty with ⟨rfl, xs, hq⟩ | ⟨rfl, o, hk, hc, hd⟩ | ⟨rfl, hk⟩ | ⟨rfl, S, n, hk⟩
    · obtain ⟨its, _, pl, _⟩ := I.list hq
      refine ⟨pl.isList.typeIs, fun a e => ?_⟩
      cases e
      obtain ⟨o, n, e, c, hd, _⟩ := pl
      exact ⟨o, e, hd⟩
    · refine ⟨⟨o, I.kIn p o hk, hc⟩, fun a e => ?_⟩
      cases e
      exact ⟨o, I.kIn _ o hk, hd⟩
    · have z : ∃ o, s.heap.get? p = some o ∧ o.ExactDict := by
        rcases hk with ⟨kvs, hk⟩ | ⟨kvs, hk⟩
        · obtain ⟨_, _, _, _, o, _, _, e, ex, _⟩ := I.hok p _ hk
          exact ⟨o, e, ex⟩
        · obtain ⟨_, _, _, _, o, _, _, e, ex, _⟩ := I.hok p _ hk
          exact ⟨o, e, ex⟩
      obtain ⟨o, e, ex⟩ := z
      refine ⟨⟨o, e, ex.1⟩, fun a e2 => ?_⟩
      cases e2
      exact ⟨o, e, ex.2.1⟩
    · obtain ⟨o, _, _, _, e, ex, _⟩ := I.hok p _ hk
      refine ⟨⟨o, e, ex.1⟩, fun a e2 => ?_⟩
      cases e2
      exact ⟨o, e, ex.2.1⟩
  | _ => exact False.elim ty
def tBM (K : PySem.W.Frag) (T : String) (r : V → List V → Hp → VK → Prop) (to : TE) (t : TA) : TE := fun σ H Q => to σ H fun x H1 => tyV K T x H1 ∧ t σ H1 fun xs H2 => r x xs H2 Q
variable {o e : Expr} {es : List Expr} {to : TE} {t : TA} {name : Str} {apos cpos : Pos} {T id : String} {r : V → List V → Hp → VK → Prop}
theorem pe_bm (pa : PlainAttrs T) (slot : Slot T name id) (hty : typeOf (.builtin id) = pure (.type "method_descriptor")) (hm : MtR X id r) (ho : PE X o to) (ha : PA X (e :: es) t)
    (hbase : attributeBase o name X.env (eval o X.env) = eval o X.env := by rfl)
    (hfew : ((backTo cpos (starEach (e :: es) X.env)).all (fun x => !x.1) && (backToKw cpos (keywordEach [] X.env)).all (fun x => x.1.isSome)
      && decide ((e :: es).length + ([] : List Keyword).length + (if ([] : List Keyword).isEmpty then 0 else 1) < 30)) = true := by rfl)
    (hline : (apos.endLine == cpos.line) = true := by rfl) (hs : starEach (e :: es) X.env = (false, eval e X.env) :: starEach es X.env := by rfl) (hplain : (backTo cpos (starEach es X.env)).any (·.1) = false := by rfl) :
    PE X (.Call (.Attribute o name apos) (e :: es) [] cpos) (tBM X.K T r to t) := by
  intro pins s σ H Q I h
  refine wpAny_Call_method_late hbase hfew hline rfl (thn (ho pins s σ H _ I h) fun v s1 ⟨x, H1, I1, r1, ty, q1⟩ => ?_)
  obtain ⟨h1, h2⟩ := tyV_is I1 r1 ty
  refine ⟨T, id, pa, slot, hty, h1, h2, ?_⟩
  have hA := ha cpos pins s1 σ H1 _ I1 q1
  rw [hs] at hA ⊢
  refine Calls.callWith_builtin (by show (false || (backTo cpos (starEach es X.env)).any (·.1)) = false; rw [hplain] <;> rfl) (Calls.evalArgs_plain ?_)
  exact thn hA fun us s2 ⟨vs, H2, I2, r2, q2⟩ => hm pins s2 σ H2 x vs v us Q I2 r1 r2 q2
/- xs.append(e), list.index on a module's tuple .. are MtR facts of 06m -/
end
end L2

namespace L2
open PySem PySem.Spec PyProof.Rows

def MtM (X : Cx) (id : String) (r : V → List V → Hp → VK → Prop) : Prop :=
  ∀ (pins : List (Addr × Obj)) (s : Shared) (σ : St) (H : Hp) (x : V) (xs : List V) (v : Value) (us : List Value) (Q : VK), Inv X pins σ H s → RelV x v → Vals xs us → r x xs H Q →
    wpAny (model X.prog X.w) X.A (call (.builtin id) (v :: us)) (EP X pins σ Q) X.xe s

/-! ### lists of values -/
theorem Vals.one : ∀ {x : V} {us : List Value}, Vals [x] us → ∃ u, us = [u] ∧ RelV x u
  | _, _, .cons r .nil => ⟨_, rfl, r⟩
theorem Vals.two : ∀ {x y : V} {us : List Value}, Vals [x, y] us → ∃ u v, us = [u, v] ∧ RelV x u ∧ RelV y v
  | _, _, _, .cons r (.cons q .nil) => ⟨_, _, rfl, r, q⟩
section
variable {X : Cx} {pins : List (Addr × Obj)} {σ : St} {H : Hp} {s : Shared} {l b : Addr} {xs ys zs : List V}

/-! ### the two steps: a tracked list is rewritten, a new list is laid -/
theorem Inv.lset {its its' : List Value} {n : Nat} {f : Array Value → Array Value} {t' : Nat} (I : Inv X pins σ H s) (hH : H l = some (.lst xs))
    (e : s.heap.get? l = some { cls := .type "list", data := .seq its.toArray n }) (hf : f its.toArray = its'.toArray) (hv : Vals ys its') (hz : ys.length ≤ sizeLine) :
    Inv X pins σ (upd H l (.lst ys)) { s with heap := s.heap.update l (Obj.mapSeq f), toks := t' } := by
  have q := PySem.IsL.update e f
  rw [hf] at q
  refine I.write (x := l) (e := l) (by rw [hH]; exact trivial) (.inl rfl) (fun b' u hb hu => (Heap.get?_update_other s.heap (Obj.mapSeq f) (Ne.symm hb)).trans hu) ⟨_, q⟩ ?_
  exact ⟨hz, its', _, hv, q⟩
theorem Inv.lnew {its : List Value} {t' : Nat} (I : Inv X pins σ H s) (hv : Vals ys its) (hz : ys.length ≤ sizeLine) :
    Inv X pins σ (upd H s.heap.objs.size (.lst ys)) { s with heap := s.heap.push { cls := .type "list", data := .seq its.toArray }, toks := t' } :=
  I.laid (fun _ _ q => Heap.get?_push_of_some _ q) (Nat.le_refl _) ⟨hz, its, 0, hv, Heap.get?_push_size _ rfl⟩
theorem Inv.fresh (I : Inv X pins σ H s) : H s.heap.objs.size = none := I.hok.fresh (Nat.le_refl _)
theorem Inv.lstM (I : Inv X pins σ H s) (hH : H l = some (.lst xs)) : xs.length ≤ sizeLine ∧ ∃ (its : List Value) (n : Nat), Vals xs its ∧ xs.length = its.length ∧ s.heap.get? l = some { cls := .type "list", data := .seq its.toArray n } := by
  obtain ⟨z, its, n, r, e⟩ := I.hok l _ hH
  exact ⟨z, its, n, r, r.length, e⟩

end

section
variable {X : Cx}

/-! ### methods -/
def rAppend : V → List V → Hp → VK → Prop := fun x vs H Q => ∃ l xs y, x = .ref l ∧ vs = [y] ∧ H l = some (.lst xs) ∧ xs.length < sizeLine ∧ Q .non (upd H l (.lst (xs ++ [y])))
theorem mt_append : MtM X "list.append" rAppend := by
  intro pins s σ H x vs v us Q I rx rv h
  obtain ⟨l, xs, y, rfl, rfl, hH, hz, q⟩ := h
  cases rx
  obtain ⟨u, rfl, ru⟩ := rv.one
  obtain ⟨z, its, n, r, hl, e⟩ := I.lstM hH
  refine call_meets F.slot_list_append ⟨_, e, rfl⟩ F.entry_list_append (F.args_list_append_2 _ _) (PySem.list_append l its.toArray n u (by rw [List.size_toArray]; omega)) ⟨e, ?_⟩
  refine ⟨.non, _, I.lset (its' := its ++ [u]) hH e (by simp) (r.append (.cons ru .nil)) ?_, rfl, q⟩
  rw [List.length_append, List.length_singleton]
  omega

/-! ### list + list, list += list, list * int -/
def rCat : R2 := fun x y H Q => ∃ l b xs zs, x = .ref l ∧ y = .ref b ∧ H l = some (.lst xs) ∧ H b = some (.lst zs) ∧ xs.length + zs.length ≤ sizeLine ∧ ∀ p, H p = none → Q (.ref p) (upd H p (.lst (xs ++ zs)))
theorem op_cat : OpR X (binaryOp .Add) rCat := by
  intro pins s σ H x y v u Q I rx ry h
  obtain ⟨l, b, xs, zs, rfl, rfl, hH, hB, hz, q⟩ := h
  cases rx
  cases ry
  obtain ⟨z, its, n, r, hl, e⟩ := I.lstM hH
  obtain ⟨z2, its2, n2, r2, hl2, e2⟩ := I.lstM hB
  refine PySem.P.add_list e e2 ?_ (by rw [List.size_toArray, List.size_toArray]; omega)
  have ea : its.toArray ++ its2.toArray = (its ++ its2).toArray := by simp
  rw [ea]
  exact ⟨.ref _, _, I.lnew (t' := s.toks) (r.append r2) (by rw [List.length_append]; omega), rfl, q _ I.fresh⟩
/-! ### del xs[i] -/
end

/-! ### xs[a:b] = ys -/
section
variable {prog : Program} {w : World} {A : Around} {E : Value → Shared → Prop} {s : Shared}
end

section
variable {X : Cx}
end
end L2

namespace Att
open PySem PySem.W PySem.Calls PyProof.Rows

/-! ### the script -/
theorem ints_of_wellAll {P : Params} {h : Heap} : ∀ (ns : List Int) (vs : List Value), WellAll P h vs (ns.map WData.int) → IntsAre vs ns := by
  intro ns
  induction ns with
  | nil =>
    intro vs w
    rw [List.map_nil] at w
    cases w
    exact .nil
  | cons n ns ih =>
    intro vs w
    rw [List.map_cons] at w
    cases w with
    | cons a b =>
      cases a
      exact .cons _ _ (ih _ b)

theorem script_of {l : OpenLaw} {n : Nat} (hn : l.most = some n) {P : Params} {h : Heap} {args : List WData} {vals : List Value}
    (hpre : l.row.toRowW.claim.pre args = true) (hwl : WellAll P h vals args) :
    ∃ a vs ns, vals = [Value.ref a] ∧ args = [WData.list (ns.map WData.int)] ∧ h.get? a = some { cls := .type "list", data := .seq vs.toArray } ∧ IntsAre vs ns ∧ ns.length ≤ n := by
  have hsh : WShape.hasAll [] args [.list .int] = true := (pre_splitW hpre).1
  have hc : l.pre.holds [] { args := args } = true := (pre_splitW hpre).2
  obtain ⟨d, r, rfl, h1, h2⟩ := hasAllW_cons hsh
  obtain rfl := hasAllW_nil h2
  obtain ⟨xs, rfl, h3⟩ := hasW_list h1
  obtain ⟨ns, rfl⟩ := items_int h3
  have hlen : ns.length ≤ n := by
    unfold OpenLaw.pre at hc
    have h4 : (WTm.not (.lt (.lit (.int (n : Int))) (.len (.arg 0)))).holds [] { args := [.list (ns.map .int)] } = true := by
      have h4 := (holds_andW hc).1
      rw [hn] at h4
      exact h4
    have h5 := condW_of h4 (w_not (w_lt w_lit (w_len_list (w_arg rfl))))
    rw [List.length_map] at h5
    refine Nat.le_of_not_lt fun q => ?_
    have q' : (n : Int) < ((ns.length : Nat) : Int) := by omega
    first
      | (rw [decide_eq_true q'] at h5; exact absurd h5 (by decide))
      | (simp at h5; omega)
  cases hwl with
  | cons w1 w2 =>
    cases w2
    cases w1 with
    | list ho hall => exact ⟨_, _, ns, rfl, rfl, ho, ints_of_wellAll ns _ hall, hlen⟩

theorem post_true (l : OpenLaw) (args : List WData) : l.row.toRowW.claim.post args (.bool true) args = true :=
  postW_of (r := l.row.toRowW) (X := (true == true))
    (show WShape.has [] (.bool true) .bool = true by first | rfl | decide | simp [WShape.has, WShape.arms, WShape.armsAll])
    (show (WTm.eq .res (.lit (.bool true))).value [] { args := args, res := some (.bool true), after := args } = some (.bool (true == true)) from w_eq_bool (w_res rfl) w_lit) rfl

/-! ### the attachment: holds_open's last premise (the goal 'hc' behind k_head) from a wpAny of the law's body -/
/-- the same from a codeAny of the CALL (for a layer whose function contracts speak of calls) -/
theorem attach_call {l : OpenLaw} {n : Nat} {q : Program} {loose : List Str} {XP : (Str → Option Value) → Heap → Prop} {YP : World → Heap → Prop} {d : DefRec}
    (hn : l.most = some n) (hdf : d.params.defaults = [])
    (call : ∀ (w : World) (s₀ s₁ : Shared) (mg mb : Str → Option Value) (fa : Addr) (o : Obj) (pm cd doc : Value) (a : Addr) (vs : List Value) (ns : List Int),
      Ground q loose [] XP w s₀ mg mb s₁.heap → YP w s₁.heap →
      s₁.heap.get? fa = some o → o.data = .func (docDef d.name d.params d.body d.scope pm cd doc) → s₁.heap.CodeRec cd d.name → mg d.name = some (.ref fa) →
      s₁.heap.get? a = some { cls := .type "list", data := .seq vs.toArray } → IntsAre vs ns → ns.length ≤ n → s₁.gens = #[] →
      codeAny (model l.prog w) callerA (.call (.ref fa) ⟨[.ref a], []⟩) (fun r s' => r = .ok (.ret (.bool true)) ∧ OldK s₁.heap s'.heap ∧ s'.os = s₁.os ∧ AllBare s'.gens) s₁) :
    WalkO q loose XP YP l.row.toRowW d [] (fun f vs => PySem.call f vs) := by
  intro w s₀ s₁ mg mb G Y fa o pm cd doc dV kV ho hd hcd hD hmg hg args vals as hpre hlay hrd hwl hlo
  obtain rfl : dV = .none := Dflts.none hD hdf
  obtain rfl : kV = .none := Dflts.noKw hD
  obtain ⟨a, vs, ns, rfl, rfl, hobj, hints, hlen⟩ := script_of hn hpre hwl
  refine enter_call (codeAny_mono (call w s₀ s₁ mg mb fa o pm cd doc a vs ns G Y ho (fd_plain hd) hcd hmg hobj hints hlen hg) fun r s' hq => ?_)
  obtain ⟨rfl, h2, h3, h4⟩ := hq
  exact ⟨.inl ⟨.bool true, .bool true, [], rfl, fun _ => rfl, .bool true, post_true l _, fun _ => ⟨List.Pairwise.nil, fun _ hm => (nomatch hm)⟩⟩, h2, h3, h4⟩

/-! ### rules over ANY heap (no ledger) from facts about the written part K: the library's own take a ledger (News) for what they write -/
section
variable {prog : Program} {w : World} {A : Around} {E : Value → Shared → Prop} {s : Shared} {K : Frag}

/-! the whole heap as the ledger: makes every rule that writes through a ledger a rule over any heap -/
end
end Att

namespace L2
open PySem PySem.Spec PyProof.Rows

theorem vals_ints : ∀ {vs : List Value} {ns : List Int}, IntsAre vs ns → Vals (ns.map V.int) vs
  | _, _, .nil => .nil
  | _, _, .cons n t h => .cons ⟨t, rfl⟩ (vals_ints h)

end L2

namespace L2
open PySem PySem.Spec PyProof.Rows

end L2

/- THE LAST THEOREM (shape; LID, My.* are yours):
   My.Adr: a structure of the addresses that your layer names (classes, functions); My.Txt K t: a structure (Prop) of the equations over K;
   My.txt_mk : {K} {implicit addresses ..} (e1 : nsIn K mainGlobals "law" = some (some (.ref f))) (e2 : K.lookup f = some ⟨oc, od, .func (fnOf "law" "law" params body scope dV kV doc pm an cdv ct), sl⟩) (e3 : codeIn K cdv "law" = true) .. : ∃ t, My.Txt K t

set_option maxRecDepth 100000 in
set_option maxHeartbeats 0 in
theorem PySem.Challenge.cw_LID_holds : PySem.Challenge.rw_LID.Holds := by
  w_on; o_law; k_head; (case hw => w_witness2)
  k_fill
  refine L2.walk_of (l := PySem.Challenge.rw_LID) (n := 63) (k := 40) (x := "script") (CX := fun w => ..) (sp := fun _ => My.sp_law) rfl (by decide) rfl ⟨rfl, by decide, by decide⟩ (fun w h Y => PySem.W.kIn_of Y) ?F ?S ?C
  case F =>
    intro w mg fa h KX G hmg
    have T : ∃ t, My.Txt (L2.KOf KX) t := by
      dsimp only [L2.KOf]                          -- K must stand as «<heap const> w.params» for k_is
      refine' My.txt_mk ?e1 ?e2 ?e3 ..
      (case e1 => PySem.W.k_is)                    -- in the order: a name -> its address -> its object -> its parts
      (case e2 => PySem.W.k_is)
      ..
    obtain ⟨t, T⟩ := T
    have e0 := hmg.symm.trans (PySem.W.mg_of KX G T.law)
    cases e0                                       -- fa is the law's own address
    exact ⟨_, fun s u => .of_eq rfl, fun base kb nb => My.law_fn T kb nb⟩     -- if «.of_eq rfl» comes too early: refine' ⟨_, ?b, fun base kb nb => My.law_fn T kb nb⟩; exact fun s u => .of_eq rfl
  case S => exact fun w H a ns hl hO hS => ..
  case C => exact ..
(the tactic k_is has no namespace: write k_is) -/

/-! SHORT WORDS over the layer: a def of the text, its body, what a loop and a test want. -/
namespace L2
open PySem PySem.Spec PyProof.Rows

/-! ### the text by places -/
def defArgs (s : Stmt) : Arguments := match s with
  | .FunctionDef _ a _ _ _ _ _ _ _ _ => a
  | _ => { posonlyargs := [], args := [], vararg := none, kwonlyargs := [], kw_defaults := [], kwarg := none, defaults := [] }
def defBody (s : Stmt) : List Stmt := match s with
  | .FunctionDef _ _ b _ _ _ _ _ _ _ => b
  | _ => []
def defScope (s : Stmt) : Scope := match s with
  | .FunctionDef _ _ _ _ _ _ sc _ _ _ => sc
  | _ => { kind := .function, names := [], isGenerator := false, isCoroutine := false }

/-! ### no exception leaves a def -/
abbrev CX0 : CXT := fun _ _ _ _ _ _ => False
abbrev E0 : XK := fun _ _ _ => False
theorem pass0 {X : Cx} : Passes CX0 X E0 := fun _ _ _ _ _ _ _ h => h.elim

/-! ### a def (or method) of the text as it stands behind the top -/
structure Fun (K : PySem.W.Frag) (x qual : Str) (st : Stmt) (f : Addr) (fd : FuncData) : Prop where
  ex : ∃ (oc : Value) (od : Option Addr) (kV doc pm : Value) (an : Option Addr) (cdv ct : Value) (osl : Array (Option Value)),
    fd = PySem.W.fnOf x qual (defArgs st) (defBody st) (defScope st) .none kV doc pm an cdv ct ∧ K.lookup f = some ⟨oc, od, .func fd, osl⟩ ∧ PySem.W.codeIn K cdv qual = true
  kp : PySem.W.keepIn K (.ref f) = true
section
variable {P : Program} {w : World} {K : PySem.W.Frag} {mg : Str → Option Value} {base : Heap}
/-- THE RULE for a def: its body as a term of rules, and the reading of that term -/
theorem Fun.ok {x qual : Str} {st : Stmt} {f : Addr} {fd : FuncData} {N ps : List Str} {k : Nat} {sp : Sp} (F : Fun K x qual st f fd) (S : FnScope N ps (defScope st)) (len : ∀ vs H Q E, sp vs H Q E → vs.length = ps.length)
    (hbody : ∀ (cdv : Value) (A : Around) (outer : List Env) (s : Shared) (H : Hp) (vs : List V) (Q : VK) (E : XK), Room k (A.deeper (envOfC qual (defScope st) s.heap.objs.size f cdv)) → sp vs H Q E →
      ∃ t, PSs (cxOf CX0 P w K mg base N qual (defScope st) f cdv A outer s H E).nox (defBody st) t ∧ t { nx := fun _ H' => Q .non H', rt := Q } (start N vs) H) : FnOk P w K mg base CX0 (k + 1) f fd ps sp := by
  obtain ⟨oc, od, kV, doc, pm, an, cdv, ct, osl, rfl, lk, hcd⟩ := F.ex
  refine fn_of lk hcd S len fun A outer s H vs Q E hr hsp => ?_
  obtain ⟨t, h, q⟩ := hbody cdv A outer s H vs Q E hr hsp
  exact ⟨t, h.nox, q⟩
/-- how its arguments bind (no defaults): h is «fun _ _ _ _ _ _ us hl => match us, hl with | [_, _], _ => rfl», one _ a parameter -/
theorem Fun.binds {x qual : Str} {st : Stmt} {f : Addr} {fd : FuncData} {ps : List Str} (F : Fun K x qual st f fd)
    (h : ∀ (kV doc pm : Value) (an : Option Addr) (cdv ct : Value) (us : List Value), us.length = ps.length → bindArgs (PySem.W.fnOf x qual (defArgs st) (defBody st) (defScope st) .none kV doc pm an cdv ct) ⟨us, []⟩ = pure (ps.zip us)) : Binds K fd ps [] := by
  obtain ⟨oc, od, kV, doc, pm, an, cdv, ct, osl, rfl, lk, hcd⟩ := F.ex
  exact .all (h kV doc pm an cdv ct)
theorem fun_mk {x qual : Str} {st : Stmt} {f : Addr} {oc : Value} {od an : Option Addr} {osl : Array (Option Value)} {kV doc pm cdv ct : Value} (l : K.lookup f = some ⟨oc, od, .func (PySem.W.fnOf x qual (defArgs st) (defBody st) (defScope st) .none kV doc pm an cdv ct), osl⟩)
    (c : PySem.W.codeIn K cdv qual = true) (k : PySem.W.keepIn K (.ref f) = true) : Fun K x qual st f (PySem.W.fnOf x qual (defArgs st) (defBody st) (defScope st) .none kV doc pm an cdv ct) := ⟨⟨oc, od, kV, doc, pm, an, cdv, ct, osl, rfl, l, c⟩, k⟩
end
/-! ### expressions in short: the name that stands in the i-th slot -/
section
variable {X : Cx}
theorem pv (i : Nat) {x : Str} {pos : Pos} (hN : X.N[i]? = some x := by rfl) (hv : Vis X.env.scope x := by first | exact Or.inl rfl | exact Or.inr (Or.inl rfl) | exact Or.inr (Or.inr rfl)) (hd : (x == ("__debug__" : Str)) = false := by decide)
    (hcd : (x == ("__classdict__" : Str)) = false := by decide) : PE X (.Name x pos) (tVar i) := pe_var hN hv hd hcd
end

/-! ### tests -/
theorem iteF {A B : Prop} (h : B) : if false = true then A else B := by
  rw [if_neg Bool.false_ne_true]
  exact h
theorem iteT {A B : Prop} (h : A) : if true = true then A else B := by
  rw [if_pos rfl]
  exact h
theorem ite2 {c A B : Prop} [Decidable c] (h1 : c → A) (h2 : ¬ c → B) : if c then A else B := by
  by_cases h : c
  · rw [if_pos h]
    exact h1 h
  · rw [if_neg h]
    exact h2 h
theorem iteNS {c A B : Prop} [Decidable c] (hc : c) (h : B) : if (!decide c) = true then A else B := by
  rw [decide_eq_true hc]
  exact iteF h

/-! ### heaps -/
/-- all that was tracked is as it was -/
def Same (H H' : Hp) : Prop := ∀ b o, H b = some o → H' b = some o
theorem Same.refl (H : Hp) : Same H H := fun _ _ h => h
theorem Same.trans {H H1 H2 : Hp} (a : Same H H1) (b : Same H1 H2) : Same H H2 := fun c o h => b c o (a c o h)
theorem Same.free {H H' : Hp} (e : Same H H') {l : Addr} (h : H' l = Option.none) : H l = Option.none := by
  cases q : H l with
  | none => rfl
  | some o =>
    rw [e l o q] at h
    cases h
theorem Same.seq {K : PySem.W.Frag} {H H' : Hp} {a : Addr} {xs : List V} (e : Same H H') (h : SqL K H a xs) : SqL K H' a xs := by
  rcases h with (h | ⟨o, h⟩) | h
  · exact .inl (.inl (e _ _ h))
  · exact .inl (.inr ⟨o, e _ _ h⟩)
  · exact .inr h

end L2

set_option maxHeartbeats 4000000
namespace Bk
open PySem PySem.W PySem.Spec PySem.Calls PyProof.Rows Builtin Builtin.ObjectAttr Builtin.Getset_descriptor
section
variable {prog : Program} {w : World} {A : Around} {E : Value → Shared → Prop} {s : Shared} {K : Frag} {x C : Addr}
end
end Bk

/-! ## EXCEPTIONS over the hand layer: a def that raises, a try that catches -/
namespace L2
open PySem PySem.Spec PyProof.Rows

section
variable {P : Program} {w : World} {l : List Env} {H H' : Hp} {s : Shared} {B h h' : Heap}
end

section
variable {P : Program} {w : World} {K : PySem.W.Frag} {mg : Str → Option Value} {base : Heap} {N : List Str} {qual : Str} {scope : Scope} {f : Addr} {cd : Value} {A : Around} {outer : List Env} {s : Shared} {H : Hp} {E : XK}

end

/-! ### raise C(..) -/
section
variable {X : Cx} {x : Str} {C : Addr} {np cpos pos : Pos} {e : Expr} {es : List Expr} {t : TA} {E : XK}
end
end L2

/-! ### what may raise, and try -/
namespace L2
open PySem PySem.Spec PyProof.Rows

section
variable {X : Cx} {st : Stmt} {rest : List Stmt} {t u : TSx} {e : Expr} {te : TEx} {pos : Pos}
end

section
variable {X : Cx} {body suite : List Stmt} {b₀ : Stmt} {t : TSx} {ts : Addr → Obj → TS} {c n : Str} {c₀ : Value} {i : Nat} {np hpos pos : Pos}
end
end L2

/-! ## more rules over the hand layer: isinstance, == and != of lists and tuples of flat things -/
namespace L2
open PySem PySem.Spec PyProof.Rows
section
variable {X : Cx}
/-! ### isinstance -/
def cVal : V → Option Value
  | .ref a => some (.ref a)
  | .ty n => some (.type n)
  | _ => none
theorem cVal_rel {c : V} {k u : Value} (e : cVal c = some k) (r : RelV c u) : u = k := by
  cases c with
  | ref a => cases e; exact r
  | ty n => cases e; exact r
  | _ => cases e
theorem call_isinst : CallR X (.builtin "isinstance") (fun xs H Q => ∃ x c t k b, xs = [x, c] ∧ TyOf X.K H x t ∧ cVal c = some k ∧ PySem.W.kitOne X.K t k = some b ∧ Q (.bl b) H) := by
  intro pins s σ H xs us Q I r h
  obtain ⟨x, c, t, k, b, rfl, ty, ck, e, q⟩ := h
  obtain ⟨u, w, rfl, ru, rw'⟩ := vals2 r
  obtain rfl := cVal_rel ck rw'
  exact isinst_ok I ru ty e fun tk => ⟨.bl b, H, I.tok tk, rfl, q⟩
end
end L2

/-! ## a def of the text in one hand: where it lies, how it binds -/
namespace L2
open PySem PySem.Spec PyProof.Rows
structure Dv (K : PySem.W.Frag) (mg : Str → Option Value) (x : Str) (st : Stmt) (ps : List Str) where
  f : Addr
  fd : FuncData
  F : Fun K x x st f fd
  b : Binds K fd ps []
  m : mg x = some (.ref f)
section
variable {X : Cx} {x : Str} {st : Stmt} {ps : List Str} {CX : CXT} {k : Nat} {sp : Sp} {E : XK} {p pos : Pos} {e : Expr} {es : List Expr} {t : TA}
end
/-- the law's reader of a cell -/
def cell (ns : List Int) (k : Int) : Int := if k < (ns.length : Int) then ns.getD k.toNat 0 else 0
theorem at_cell {ns : List Int} {k : Int} (h0 : 0 ≤ k) (h : k < (ns.length : Int)) : atI (ns.map V.int) k = some (V.int (ns.getD k.toNat 0)) := by
  have hk : k.toNat < ns.length := by omega
  have e : k = ((k.toNat : Nat) : Int) := by omega
  rw [e]
  refine atI_nat ?_
  rw [List.getElem?_map, Int.toNat_natCast]
  simp [List.getD_eq_getElem?_getD, hk]
end L2

/-! ## list comprehensions over the hand layer -/
namespace L2
open PySem PySem.Spec PyProof.Rows
/-! ### the cells that a block takes over -/
def closStep (env : Env) (p : Str × NameKind) (cs : List (Str × Addr)) : List (Str × Addr) := if (p.2 == NameKind.free) = true then (p.1, (env.cells.lookup p.1).getD 0) :: cs else cs
theorem forIn_fold {α β : Type} {f : α → β → Sem (ForInStep β)} {g : α → β → β} : ∀ {l : List α} (c : β), (∀ x ∈ l, ∀ c, f x c = pure (.yield (g x c))) → forIn l c f = pure (l.foldl (fun c x => g x c) c)
  | [], _, _ => rfl
  | x :: l, c, h => by
    rw [List.forIn_cons, h x List.mem_cons_self, pure_bind]
    exact forIn_fold _ fun y hy => h y (List.mem_cons_of_mem _ hy)
theorem clos_fold {env : Env} : ∀ {ns : List (Str × NameKind)} {cs : List (Str × Addr)}, (∀ p ∈ ns, p.2 = .free → ∃ c, env.cells.lookup p.1 = some c) → (∀ y c, cs.lookup y = some c → env.cells.lookup y = some c) →
    (∀ y c, (ns.foldl (fun c x => closStep env x c) cs).lookup y = some c → env.cells.lookup y = some c) ∧ ∀ y, ((y, NameKind.free) ∈ ns ∨ ∃ c, cs.lookup y = some c) → ∃ c, (ns.foldl (fun c x => closStep env x c) cs).lookup y = some c
  | [], cs, _, h => ⟨h, fun y z => z.elim (fun z => nomatch z) id⟩
  | p :: ns, cs, hf, h => by
    have step : ∀ y c, (closStep env p cs).lookup y = some c → env.cells.lookup y = some c := fun y c e => by
      unfold closStep at e
      by_cases hp : (p.2 == NameKind.free) = true
      · rw [if_pos hp, List.lookup_cons] at e
        obtain ⟨c', ec⟩ := hf p List.mem_cons_self (by simpa using hp)
        split at e
        · rename_i q
          have q' : y = p.1 := by simpa using q
          rw [ec] at e
          have e' : c' = c := Option.some.inj e
          rw [q', ec, e']
        · exact h y c e
      · rw [if_neg hp] at e
        exact h y c e
    obtain ⟨h1, h2⟩ := clos_fold (ns := ns) (cs := closStep env p cs) (fun q hq => hf q (List.mem_cons_of_mem _ hq)) step
    refine ⟨h1, fun y z => h2 y ?_⟩
    rcases z with z | ⟨c, z⟩
    · rcases List.mem_cons.mp z with z | z
      · refine .inr ?_
        unfold closStep
        rw [← z]
        simp [List.lookup_cons]
      · exact .inl z
    · refine .inr ?_
      unfold closStep
      by_cases hp : (p.2 == NameKind.free) = true
      · rw [if_pos hp, List.lookup_cons]
        split
        · exact ⟨_, rfl⟩
        · exact ⟨c, z⟩
      · rw [if_neg hp]; exact ⟨c, z⟩
theorem closure_of {scope : Scope} {env : Env} (h : ∀ p ∈ scope.names, p.2 = .free → ∃ c, env.cells.lookup p.1 = some c) :
    ∃ cl, closureFor scope env = pure cl ∧ (∀ y c, cl.lookup y = some c → env.cells.lookup y = some c) ∧ ∀ y, (y, NameKind.free) ∈ scope.names → ∃ c, cl.lookup y = some c := by
  obtain ⟨h1, h2⟩ := clos_fold (cs := []) h (fun y c e => by simp at e)
  refine ⟨_, ?_, h1, fun y hy => h2 y (.inl hy)⟩
  simp only [closureFor]
  rw [forIn_fold (g := closStep env) [] (fun x hx c => ?_)]
  · rfl
  · obtain ⟨n, k⟩ := x
    unfold closStep
    by_cases hk : (k == NameKind.free) = true
    · obtain ⟨c', ec⟩ := h (n, k) hx (by simpa using hk)
      simp only [hk, if_true, cellOf, ec, pure_bind, Option.getD_some]
    · simp only [hk, Bool.false_eq_true, if_false]

/-- the context of a comprehension's block: its own names first, then those around it -/
def Cx.blk (X : Cx) (ts M : List Str) (scope : Scope) (cl : List (Str × Addr)) (C : Addr) (fp : List Addr) (s : Shared) (H : Hp) : Cx where
  prog := X.prog
  w := X.w
  K := X.K
  mg := X.mg
  base := X.base
  A := X.A
  N := ts ++ M
  s₀ := s
  H₀ := H
  env := compEnvC scope cl C X.env
  outer := X.stack
  stack := X.stack
  ex := fp
  fn := fun _ => false
  calm := X.calm
  pn := X.pn
  xe := fun _ _ => False

theorem relabel_lookup {env : Env} : ∀ {names : List (Str × NameKind)} {x : Str} {k : NameKind}, (names.map fun (n, k) => if (k == NameKind.free && env.scope.kind == .function && env.kindOf n == some .cell) then (n, NameKind.cell) else (n, k)).lookup x = some k →
    (names.lookup x = some k) ∨ (k = .cell ∧ names.lookup x = some .free)
  | [], _, _, h => by simp at h
  | (n, k0) :: r, x, k, h => by
    have ih := @relabel_lookup env r x k
    rw [List.map_cons] at h
    by_cases hc : (k0 == NameKind.free && env.scope.kind == .function && env.kindOf n == some .cell) = true
    · simp only [hc, if_true, List.lookup_cons] at h ⊢
      cases hx : x == n with
      | true =>
        rw [hx] at h
        have e : NameKind.cell = k := Option.some.inj h
        simp only [Bool.and_eq_true, beq_iff_eq] at hc
        exact .inr ⟨e.symm, by rw [hc.1.1]⟩
      | false =>
        rw [hx] at h
        exact ih h
    · simp only [hc, Bool.false_eq_true, if_false, List.lookup_cons] at h ⊢
      cases hx : x == n with
      | true => rw [hx] at h; exact .inl h
      | false => rw [hx] at h; exact ih h

/-- what is asked of a block's names: none is a cell of its own, the free ones are cells around it, the own ones are not names around it -/
structure BlkOk (X : Cx) (ts M : List Str) (scope : Scope) : Prop where
  kind : scope.kind = .function
  cell : ∀ y ∈ scope.names, y.2 ≠ .cell
  loc : ∀ y ∈ scope.names, y.2 = .local → scope.names.lookup y.1 = some .local
  free : ∀ p ∈ scope.names, p.2 = .free → X.env.kindOf p.1 = some .cell ∨ X.env.kindOf p.1 = some .free
  len : M.length = X.N.length
  apart : ∀ (i : Nat) (y : Str), M[i]? = some y → scope.names.lookup y = none ∨ (X.N[i]? = some y ∧ scope.names.lookup y ≠ some .local)
section
variable {X : Cx} {ts M : List Str} {scope : Scope} {cl : List (Str × Addr)} {C : Addr} {fp : List Addr} {pins : List (Addr × Obj)} {σ : St} {H : Hp} {s s1 : Shared}
theorem lookup_mem {α : Type} {l : List (Str × α)} {x : Str} {a : α} (h : l.lookup x = some a) : (x, a) ∈ l := PySem.mem_of_lookup h
/-- the block begins: s is the state behind the iterator, s1 the one with the block's own dict at C -/
theorem Inv.blk (b : BlkOk X ts M scope) (I : Inv X pins σ H s) (h1 : ∀ y c, cl.lookup y = some c → X.env.cells.lookup y = some c) (h2 : ∀ y, (y, NameKind.free) ∈ scope.names → ∃ c, cl.lookup y = some c) (hf : ∀ b ∈ fp, FpOk X pins H b)
    (hlt : ∀ b ∈ fp, b < s.heap.objs.size) (hC : s.heap.objs.size ≤ C) {h' : Heap} {t : Nat} (k : ∀ b o, s.heap.get? b = some o → h'.get? b = some o) {m : Str → Option Value} (hn : h'.Ns C m) :
    Inv (X.blk ts M scope cl C fp s H) pins (List.replicate ts.length none ++ σ) H { s with heap := h', toks := t } := by
  have sub : ∀ a ∈ frs X.stack, a = X.env.locals ∨ a ∈ X.fs := fun a ha => List.mem_cons.mp (I.stkSub a ha)
  have hfree : ∀ y, scope.names.lookup y = some .free → X.env.kindOf y = some .cell ∨ X.env.kindOf y = some .free := fun y e => b.free (y, .free) (lookup_mem e) rfl
  have hk : ∀ {y : Str} {kd : NameKind}, (compEnvC scope cl C X.env).kindOf y = some kd → scope.names.lookup y = some kd ∨ (kd = .cell ∧ scope.names.lookup y = some .free) := fun e => relabel_lookup e
  refine ⟨⟨I.ok.mod, b.kind, I.ok.glob, I.ok.blt, hC, fun x y c e1 e2 => I.ok.inj x y c (h1 x c e1) (h1 y c e2), fun x hx => ?_, (fun x c z => absurd (show false = true from z) Bool.false_ne_true), I.ok.hd, I.ok.frames, .inl rfl, fun a ha => ⟨?_, fun x c e => (hf a ha).2.2.2.2.1 x c (h1 x c e)⟩,
    fun a o e => I.bs a o e, Nat.le_trans I.ok.bsz I.sz, fun a o e ha => ?_, fun a ha z => ?_, I.stack, I.stkFree⟩, rfl, I.bare, Un.kept k, ⟨m, hn, fun i y v e1 e2 e3 => ?_⟩, fun x c e => ?_, I.hok.fresh hC, fun x c e => I.freeC x c (h1 x c e), fun p hp => ?_, I.hok.kept k, ?_⟩
  · rcases hx with hx | hx
    · rcases hk hx with z | ⟨_, z⟩
      · exact absurd rfl (b.cell (x, .cell) (lookup_mem z))
      · exact h2 x (lookup_mem z)
    · rcases hk hx with z | ⟨z, _⟩
      · exact h2 x (lookup_mem z)
      · cases z
  · exact Nat.ne_of_lt (Nat.lt_of_lt_of_le (hlt a ha) hC)
  · rcases (hf a ha).2.2.2.1 with z | z
    · exact I.ok.noex a o e z
    · exact absurd (Nat.lt_of_lt_of_le (Nat.lt_of_lt_of_le (Heap.lt_size e) I.ok.bsz) z) (Nat.lt_irrefl _)
  · rcases sub a z with z | z
    · exact (hf a ha).2.1 z
    · exact (hf a ha).2.2.1 z
  · have hi : ts.length ≤ i := by
      by_cases q : ts.length ≤ i
      · exact q
      · rw [List.getElem?_append_left (by simpa using q), List.getElem?_replicate] at e2
        split at e2 <;> cases e2
    have e1M : M[i - ts.length]? = some y := by
      have z : (ts ++ M)[i]? = some y := e1
      rwa [List.getElem?_append_right hi] at z
    have e2' : σ[i - ts.length]? = some (some v) := by
      rw [List.getElem?_append_right (by simpa using hi), List.length_replicate] at e2
      exact e2
    obtain ⟨e1', nl⟩ : X.N[i - ts.length]? = some y ∧ scope.names.lookup y ≠ some .local := by
      rcases b.apart _ y e1M with z | z
      · exfalso
        rcases e3 with e3 | e3 | e3 <;> rcases hk e3 with q | ⟨_, q⟩ <;> (rw [z] at q; cases q)
      · exact z
    have fr : scope.names.lookup y = some .free := by
      rcases e3 with e3 | e3 | e3
      · rcases hk e3 with z | ⟨z, _⟩
        · exact absurd z nl
        · cases z
      · rcases hk e3 with z | ⟨_, z⟩
        · exact absurd rfl (b.cell (y, .cell) (lookup_mem z))
        · exact z
      · rcases hk e3 with z | ⟨z, _⟩
        · exact z
        · cases z
    obtain ⟨m0, hn0, hl0⟩ := I.loc
    have vis : Vis X.env.scope y := by
      rcases hfree y fr with z | z
      · exact .inr (.inl z)
      · exact .inr (.inr z)
    obtain ⟨u, r, l⟩ := hl0 _ y v e1' e2' vis
    obtain ⟨c, ec⟩ := h2 y (lookup_mem fr)
    refine ⟨u, r, .inr ⟨?_, c, ec, ?_⟩⟩
    · rcases e3 with e3 | e3 | e3
      · rcases hk e3 with z | ⟨z, _⟩
        · exact absurd z nl
        · cases z
      · exact .inl e3
      · exact .inr e3
    · rcases l with ⟨kl, _⟩ | ⟨_, c', ec', z⟩
      · rcases hfree y fr with q | q <;> (rw [kl] at q; cases q)
      · rw [h1 y c ec] at ec'
        cases ec'
        obtain ⟨o, ho, hd⟩ := z
        exact ⟨o, k _ _ ho, hd⟩
  · obtain ⟨v, o, ho, hd⟩ := I.cell x c (h1 x c e)
    exact ⟨v, o, k _ _ ho, hd⟩
  · obtain ⟨e, n, ne, nf, d⟩ := I.pin p hp
    refine ⟨k _ _ e, n, Nat.ne_of_lt (Nat.lt_of_lt_of_le (Heap.lt_size e) hC), fun z => ?_, d⟩
    rcases sub _ z with z | z
    · exact ne z
    · exact nf z
  · show _ = (ts ++ M).length
    rw [List.length_append, List.length_append, List.length_replicate, I.len, b.len]
/-- the block is over: the list at D is tracked from now on -/
theorem Inv.unblk {D : Addr} {ys : List V} {us : List Value} {n : Nat} {σ' : St} {H' : Hp} (I : Inv X pins σ H s) (J : Inv (X.blk ts M scope cl C fp s H) pins σ' H' s1) (hf : ∀ b ∈ fp, FpOk X pins H b) (hD : s.heap.objs.size ≤ D) (hn : H' D = none)
    (ho : s1.heap.get? D = some { cls := .type "list", data := .seq us.toArray n }) (r : Vals ys us) (hz : ys.length ≤ sizeLine) : Inv X pins σ (upd H' D (.lst ys)) s1 := by
  have u : Un (frs X.stack) fp H H' s.heap s1.heap := J.base
  have ndt : ∀ b o, H' b = some o → b ≠ D := fun b o e z => by rw [z, hn] at e; cases e
  refine I.call' (ch := fp) J.os ⟨u.keep, u.slot, fun b o e n hx => ?_, u.there, fun b xs e => ?_, fun b o xs e => ?_, fun b ps e => ?_⟩ (fun b o e => ?_) J.bare (fun b hb => ?_)
  · rw [upd_ne (Nat.ne_of_lt (Nat.lt_of_lt_of_le (Heap.lt_size e) hD))]
    exact u.free b o e n hx
  · have z := u.tups b xs e
    rw [upd_ne (ndt b _ z)]; exact z
  · have z := u.frzs b o xs e
    rw [upd_ne (ndt b _ z)]; exact z
  · obtain ⟨more, z⟩ := u.tbls b ps e
    exact ⟨more, by rw [upd_ne (ndt b _ z)]; exact z⟩
  · by_cases hb : b = D
    · subst hb
      rw [upd_same] at e
      cases e
      exact ⟨hz, us, n, r, ho⟩
    · rw [upd_ne hb] at e
      exact (J.hok b o e).stay (fun c v _ q => q) (fun c q => by rw [upd_ne (ndt c _ q)]; exact q) fun c xs q => by rw [upd_ne (ndt c _ q)]; exact q
  · obtain ⟨f0, f1, f2, f3, f4, f5⟩ := hf b hb
    exact ⟨f3, f1, f4, f5⟩
end

/-! ### the tests of a clause -/
def PIf (X : Cx) (ifs : List Expr) (t : TT) : Prop :=
  ∀ (pins : List (Addr × Obj)) (s : Shared) (σ : St) (H : Hp) (Q : Bool → Hp → Prop), Inv X pins σ H s → t σ H Q →
    wpAny (model X.prog X.w) X.A (forIn ifs true fun c r => if r = true then do let ok ← isTrue c X.env (eval c X.env); pure (ForInStep.yield ok) else pure (ForInStep.yield r)) (TP X pins σ Q) X.xe s
def tYes : TT := fun _ H Q => Q true H
theorem pif_nil {X : Cx} : PIf X [] tYes := fun _ _ _ H _ I h => wpAny_tests_nil ⟨H, I, h⟩
theorem pif_one {X : Cx} {c : Expr} {t : TT} (h : PT X c t) : PIf X [c] t := fun pins s σ H Q I q => wpAny_tests_one (h pins s σ H Q I q)

/-- a new list is told -/
def NewL (Q : VK) (ys : List V) (H : Hp) : Prop := ∀ p, H p = none → Q (.ref p) (upd H p (.lst ys))
/-- [elt for target in iter if ..]: W the invariant by the turn, a measure, the list so far -/
def tComp (k : Nat) (wi : TI) (g : TG) (tf : TT) (te : TE) : TE := fun σ H Q => wi σ H fun J H1 => ∃ W : Nat → Nat → List V → Hp → Prop, (∃ m, W 0 m [] H1) ∧ ∀ i m ys H2, W i m ys H2 →
  (J.stop i H2 ∧ NewL Q ys H2) ∨
  (J.go i H2 ∧ ys.length < sizeLine ∧ ∀ x H3, J.yld i H2 x H3 → g x (List.replicate k none ++ σ) H3 fun σ4 H4 => σ4.drop k = σ ∧ tf σ4 H4 fun b H5 =>
    if b = true then te σ4 H5 fun y H6 => ∃ m', m' < m ∧ W (i + 1) m' (ys ++ [y]) H6 else ∃ m', m' < m ∧ W (i + 1) m' ys H5)

section
variable {prog : Program} {w : World} {A : Around} {R : Result → Shared → Prop} {s : Shared}
/-- the loop of a comprehension, any target -/
theorem compLoop_any {elt target iter : Expr} {ifs : List Expr} {scope : Scope} {pos : Pos} {it acc : Value} {env : Env} (I : Nat → Shared → Prop)
    (turn : ∀ n s, I n s → wpAny (model prog w) A (pyNext it) (fun r s₁ => match r with
      | none => R (.ok .next) s₁
      | some v => wpAny (model prog w) A (letOwnedTupleGo target it v) (fun _ s₂ => wpAny (model prog w) A (assign target env v) (fun _ s₂ =>
          wpAny (model prog w) A (forIn ifs true fun c r => if r = true then do let ok ← isTrue c env (eval c env); pure (ForInStep.yield ok) else pure (ForInStep.yield r)) (fun ok s₃ =>
            if ok = true then wpAny (model prog w) A (eval elt env) (fun x s₄ =>
              wpAny (model prog w) A (call (.builtin "list.append") [acc, x]) (fun _ s₅ => ∃ m, m < n ∧ I m s₅) (notedBy (model prog w) A env fun e s' => R (.error e) s') s₄) (notedBy (model prog w) A env fun e s' => R (.error e) s') s₃
            else ∃ m, m < n ∧ I m s₃) (notedBy (model prog w) A env fun e s' => R (.error e) s') s₂) (notedBy (model prog w) A env fun e s' => R (.error e) s') s₂) (notedBy (model prog w) A env fun e s' => R (.error e) s') s₁) (notedBy (model prog w) A env fun e s' => R (.error e) s') s)
    (n : Nat) (h : I n s) :
    codeAny (model prog w) A (.compLoop (.ListComp elt [⟨target, iter, ifs, 0⟩] scope pos) 0 it acc env) R s := by
  refine codeAny_loop rfl I (fun n s hI => ?_) n h
  show wpAny _ A ((compTurn (.ListComp elt [⟨target, iter, ifs, 0⟩] scope pos) 0 it acc env).onRaise (fun x => do noteFrame x env; theTreesLotGoes x)) _ _ s
  refine wpAny_noted ?_
  rw [compTurn_list]
  refine wpAny_bind (wpAny_standAt (wpAny_bind (wpAny_mono (turn n s hI) (fun r s₁ h₁ => ?_) fun _ _ h' => h')))
  cases r with
  | none => exact wpAny_pure h₁
  | some v =>
    refine wpAny_bind (wpAny_mono h₁ (fun _ s₂ h₂ => ?_) fun _ _ h' => h')
    refine wpAny_bind (wpAny_mono h₂ (fun _ s₂ h₂ => wpAny_bind (wpAny_mono h₂ (fun ok s₃ h₃ => ?_) fun _ _ h' => h')) fun _ _ h' => h')
    cases ok with
    | false => exact wpAny_pure ⟨rfl, h₃⟩
    | true =>
      exact wpAny_bind (wpAny_bind (wpAny_mono h₃ (fun x s₄ h₄ => wpAny_bind (wpAny_mono h₄ (fun _ s₅ h₅ => wpAny_pure (wpAny_pure ⟨rfl, h₅⟩)) fun _ _ h' => h')) fun _ _ h' => h'))
end

section
variable {X : Cx} {ts : List Str} {elt tg iter : Expr} {ifs : List Expr} {scope : Scope} {pos : Pos} {wi : TI} {g : TG} {tf : TT} {te : TE}
/-- the block of a comprehension, from the iterator on -/
theorem blk_run {pins : List (Addr × Obj)} {σ : St} {H : Hp} {s : Shared} {cl : List (Str × Addr)} {it : Addr} {fp : List Addr} {tn : Nat → Heap → Prop} {J : It} {RR : Value → Addr → Result → Shared → Prop} {E : Value → Shared → Prop} {Q : VK}
    (b : BlkOk X ts M scope) (hc : X.calm = true) (hg : ∀ cl C fp s H, PG (X.blk ts M scope cl C fp s H) tg g) (hif : ∀ cl C fp s H, PIf (X.blk ts M scope cl C fp s H) ifs tf) (he : ∀ cl C fp s H, PE (X.blk ts M scope cl C fp s H) elt te)
    (I : Inv X pins σ H s) (h1 : ∀ y c, cl.lookup y = some c → X.env.cells.lookup y = some c) (h2 : ∀ y, (y, NameKind.free) ∈ scope.names → ∃ c, cl.lookup y = some c) (T : Turn X.prog X.w X.K tg J fp it tn) (st : tn 0 s.heap) (hf : ∀ b ∈ fp, FpOk X pins H b)
    (hw : ∃ W : Nat → Nat → List V → Hp → Prop, (∃ m, W 0 m [] H) ∧ ∀ i m ys H2, W i m ys H2 →
      (J.stop i H2 ∧ NewL Q ys H2) ∨
      (J.go i H2 ∧ ys.length < sizeLine ∧ ∀ x H3, J.yld i H2 x H3 → g x (List.replicate ts.length none ++ σ) H3 fun σ4 H4 => σ4.drop ts.length = σ ∧ tf σ4 H4 fun b H5 =>
        if b = true then te σ4 H5 fun y H6 => ∃ m', m' < m ∧ W (i + 1) m' (ys ++ [y]) H6 else ∃ m', m' < m ∧ W (i + 1) m' ys H5))
    (fin : ∀ D C s1 H2 ys m, Inv X pins σ (upd H2 D (.lst ys)) s1 → s1.heap.Ns C m → (upd H2 D (.lst ys)) C = none → C ≠ X.env.locals → X.s₀.heap.objs.size ≤ C → (∀ x c, X.env.cells.lookup x = some c → c ≠ C) → (∀ p ∈ X.pn ++ pins, p.1 ≠ C) →
      Q (.ref D) (upd H2 D (.lst ys)) → RR (.ref D) C (.ok .next) s1) :
    wpAny (model X.prog X.w) X.A (newList []) (fun acc s₃ => wpAny (model X.prog X.w) X.A (newFunctionEnv scope X.env.globals cl [] X.env.qual none .none (some X.env)) (fun cenv s₄ =>
      codeAny (model X.prog X.w) X.A (.compStart (.ListComp elt [⟨tg, iter, ifs, 0⟩] scope pos) 0 (.ref it) acc { cenv with scope := relabel scope X.env }) (RR acc cenv.locals) s₄) E s₃) E s := by
  obtain ⟨W, ⟨m0, w0⟩, turn⟩ := hw
  refine wpAny_newObj_type (wpAny_newFunctionEnv b.cell (by intro y hy; simp at hy) (fun h₁ hns₁ hsb₁ => ?_) b.kind)
  dsimp only at hns₁ hsb₁ ⊢
  generalize hH2 : s.heap.push { cls := .type "list", dict := none, data := .seq ([] : List Value).toArray } = G2 at hns₁ hsb₁ ⊢
  have hC : G2.objs.size = s.heap.objs.size + 1 := by rw [← hH2, Heap.size_push]
  have hDC : s.heap.objs.size ≠ G2.objs.size := by rw [hC]; exact Nat.ne_of_lt (Nat.lt_succ_self _)
  have hCle : s.heap.objs.size ≤ G2.objs.size := by rw [hC]; exact Nat.le_succ _
  have below : ∀ b, b < s.heap.objs.size → b ≠ G2.objs.size ∧ b ≠ s.heap.objs.size := fun b hb => ⟨by rw [hC]; exact Nat.ne_of_lt (Nat.lt_succ_of_lt hb), Nat.ne_of_lt hb⟩
  have old : ∀ b o, s.heap.get? b = some o → h₁.get? b = some o := fun b o e => hsb₁.extBut b o (below b (Heap.lt_size e)).1 (Heap.get?_push_of_some _ (hH2 ▸ Heap.get?_push_of_some _ e))
  have hacc : h₁.get? s.heap.objs.size = some { cls := .type "list", data := .seq ([] : List Value).toArray 0 } := hsb₁.extBut _ _ hDC (Heap.get?_push_of_some _ (hH2 ▸ Heap.get?_push_size _ rfl))
  have hlt : ∀ b ∈ fp, b < s.heap.objs.size := fun b hb => by
    obtain ⟨o, e, _⟩ := T.obj 0 _ st b hb
    exact Heap.lt_size e
  have hDf : s.heap.objs.size ∉ fp := fun hm => Nat.lt_irrefl _ (hlt _ hm)
  have cellLt : ∀ x c, X.env.cells.lookup x = some c → c < s.heap.objs.size := fun x c e => by
    obtain ⟨v, z⟩ := I.cell x c e
    exact z.lt
  have pinLt : ∀ p ∈ X.pn ++ pins, p.1 < s.heap.objs.size := fun p hp => Heap.lt_size (I.pin p hp).1
  have J0 : Inv (X.blk ts M scope cl G2.objs.size fp s H) pins (List.replicate ts.length none ++ σ) H { s with heap := h₁, toks := s.toks + ([] : List (Str × Value)).length } := I.blk b h1 h2 hf hlt hCle old hns₁
  -- the objects of the block, asked of the block's own context
  have stat : ∀ {H' : Hp} {ps : List (Addr × Obj)}, (∀ b ∈ fp, H' b = none) → (∀ p ∈ ps, p ∈ pins ∨ p.1 = s.heap.objs.size) → ∀ b ∈ fp, FpOk (X.blk ts M scope cl G2.objs.size fp s H) ps H' b := fun {H' ps} hn hp b hb => by
    refine ⟨hn b hb, (below b (hlt b hb)).1, J0.ok.exfs b hb, .inl hb, fun x c e => (hf b hb).2.2.2.2.1 x c (h1 x c e), fun p hm => ?_⟩
    rcases List.mem_append.mp hm with z | z
    · exact (hf b hb).2.2.2.2.2 p (List.mem_append_left _ z)
    · rcases hp p z with z | z
      · exact (hf b hb).2.2.2.2.2 p (List.mem_append_right _ z)
      · rw [z]; exact Ne.symm (below b (hlt b hb)).2
  have dpin : ∀ {us : List Value} {n : Nat} {σ' : St} {H' : Hp} {s' : Shared}, Inv (X.blk ts M scope cl G2.objs.size fp s H) pins σ' H' s' → s'.heap.get? s.heap.objs.size = some { cls := .type "list", data := .seq us.toArray n } → H' s.heap.objs.size = none →
      Inv (X.blk ts M scope cl G2.objs.size fp s H) (pins ++ [(s.heap.objs.size, { cls := .type "list", data := .seq us.toArray n })]) σ' H' s' := fun {us n σ' H' s'} Jn e hn => Jn.pins_of fun p hp => by
    rcases List.mem_append.mp hp with z | z
    · exact Jn.pin p (List.mem_append_right _ z)
    · have z' := List.mem_singleton.mp z
      subst z'
      refine ⟨e, hn, hDC, fun z => ?_, fun v z => nomatch z⟩
      obtain ⟨_, o, ho, _⟩ := I.stack.mem z
      exact absurd (Heap.lt_size ho) (Nat.lt_irrefl _)
  have loop : ∀ s₃ : Shared, s₃ = { s with heap := h₁, toks := s.toks + ([] : List (Str × Value)).length } →
      codeAny (model X.prog X.w) X.A (.compLoop (.ListComp elt [⟨tg, iter, ifs, 0⟩] scope pos) 0 (.ref it) (.ref s.heap.objs.size) (compEnvC scope cl G2.objs.size X.env)) (RR (.ref s.heap.objs.size) G2.objs.size) s₃ := by
    rintro s₃ rfl
    refine compLoop_any (fun n s' => ∃ i ys us c H', Inv (X.blk ts M scope cl G2.objs.size fp s H) pins (List.replicate ts.length none ++ σ) H' s' ∧ tn i s'.heap ∧ (∀ b ∈ fp, H' b = none) ∧
      s'.heap.get? s.heap.objs.size = some { cls := .type "list", data := .seq us.toArray c } ∧ H' s.heap.objs.size = none ∧ Vals ys us ∧ ys.length ≤ sizeLine ∧ W i n ys H') ?_ m0
      ⟨0, [], [], 0, H, J0, T.keep _ _ _ st fun b _ o e => old b o e, fun b hb => (hf b hb).1, hacc, I.hok.fresh (Nat.le_refl _), .nil, Nat.zero_le _, w0⟩
    rintro n s' ⟨i, ys, us, c, H', J', st', fr', ho', hn', r', hz', w'⟩
    have Jp := dpin J' ho' hn'
    have pinOk : ∀ p ∈ pins ++ [(s.heap.objs.size, ({ cls := .type "list", data := .seq us.toArray c } : Obj))], p ∈ pins ∨ p.1 = s.heap.objs.size := fun p hp => (List.mem_append.mp hp).imp id fun z => by rw [List.mem_singleton.mp z]
    rcases turn i n ys H' w' with ⟨stop, q⟩ | ⟨go, hsz, step⟩
    · refine wpAny_mono (T.done (X.blk ts M scope cl G2.objs.size fp s H) rfl rfl rfl hc i _ s' _ H' _ Jp (stat fr' pinOk) st' stop) (fun r s4 ⟨hr, J4⟩ => ?_) fun _ _ z => z
      subst hr
      have J4' : Inv (X.blk ts M scope cl G2.objs.size fp s H) pins (List.replicate ts.length none ++ σ) H' s4 := J4.unpinned
      have e4 := (J4.pin (s.heap.objs.size, _) (List.mem_append_right _ (List.mem_append_right _ (List.mem_singleton.mpr rfl)))).1
      obtain ⟨m, hm, _⟩ := J4'.loc
      refine fin _ _ s4 H' ys m (I.unblk J4' hf (Nat.le_refl _) hn' e4 r' hz') hm ?_ (Ne.symm (Nat.ne_of_lt (Nat.lt_of_lt_of_le I.lt hCle))) (Nat.le_trans I.sz hCle) (fun x c e => Nat.ne_of_lt (Nat.lt_of_lt_of_le (cellLt x c e) hCle)) (fun p hp => Nat.ne_of_lt (Nat.lt_of_lt_of_le (pinLt p hp) hCle)) (q _ hn')
      rw [upd_ne (Ne.symm hDC)]
      exact J4'.free
    · refine wpAny_mono (T.item (X.blk ts M scope cl G2.objs.size fp s H) rfl rfl rfl hc i _ s' _ H' _ Jp (stat fr' pinOk) st' go) (fun r s4 ⟨u, hr, h4⟩ => ?_) fun _ _ z => z
      subst hr
      refine wpAny_mono h4 (fun _ s5 ⟨x, H5, I5, r5, y5, st5, fr5⟩ => ?_) fun _ _ z => z
      have I5' := I5.pinned (stat fr5 pinOk) (T.obj _ _ st5)
      refine wpAny_mono (hg cl G2.objs.size fp s H _ s5 _ H5 x u _ I5' r5 (step x H5 y5)) (fun _ s6 ⟨σ6, H6, I6, q6d, q6⟩ => ?_) fun _ _ z => False.elim z
      refine wpAny_mono (hif cl G2.objs.size fp s H _ s6 σ6 H6 _ I6 q6) (fun ok s7 ⟨H7, I7, q7⟩ => ?_) fun _ _ z => False.elim z
      have weak : ∀ {ps : List (Addr × Obj)} {H8 : Hp} {s8 : Shared}, Inv (X.blk ts M scope cl G2.objs.size fp s H) ps σ6 H8 s8 → Inv (X.blk ts M scope cl G2.objs.size fp s H) ps (List.replicate ts.length none ++ σ) H8 s8 := fun {ps H8 s8} K8 => by
        have len6 : σ6.length = (ts ++ M).length := K8.len
        rw [List.length_append, b.len] at len6
        refine K8.weak (by rw [List.length_append, List.length_replicate, len6, I.len]) fun j v e => ?_
        have hj : ts.length ≤ j := by
          by_cases q : ts.length ≤ j
          · exact q
          · rw [List.getElem?_append_left (by simpa using q), List.getElem?_replicate] at e
            split at e <;> cases e
        rw [List.getElem?_append_right (by simpa using hj), List.length_replicate, ← q6d, List.getElem?_drop] at e
        rwa [show ts.length + (j - ts.length) = j by omega] at e
      have back : ∀ {H8 : Hp} {s8 : Shared}, Inv (X.blk ts M scope cl G2.objs.size fp s H) (pins ++ [(s.heap.objs.size, ({ cls := .type "list", data := .seq us.toArray c } : Obj))] ++ pinsAt fp s5.heap) σ6 H8 s8 →
          Inv (X.blk ts M scope cl G2.objs.size fp s H) pins (List.replicate ts.length none ++ σ) H8 s8 ∧ tn (i + 1) s8.heap ∧ (∀ b ∈ fp, H8 b = none) ∧ s8.heap.get? s.heap.objs.size = some { cls := .type "list", data := .seq us.toArray c } ∧ H8 s.heap.objs.size = none := fun {H8 s8} K8 => by
        have pD := K8.pin (s.heap.objs.size, _) (List.mem_append_right _ (List.mem_append_left _ (List.mem_append_right _ (List.mem_singleton.mpr rfl))))
        refine ⟨(weak K8).unpinned.unpinned, T.keep _ _ _ st5 fun b hb o e => (K8.pin (b, o) (List.mem_append_right _ (List.mem_append_right _ (mem_pinsAt hb e)))).1, fun b hb => ?_, pD.1, pD.2.1⟩
        obtain ⟨o, e, _⟩ := T.obj _ _ st5 b hb
        exact (K8.pin (b, o) (List.mem_append_right _ (List.mem_append_right _ (mem_pinsAt hb e)))).2.1
      cases ok with
      | false =>
        obtain ⟨m', hm', w7⟩ := q7
        obtain ⟨a1, a2, a3, a4, a5⟩ := back I7
        exact ⟨m', hm', i + 1, ys, us, c, H7, a1, a2, a3, a4, a5, r', hz', w7⟩
      | true =>
        refine wpAny_mono (he cl G2.objs.size fp s H _ s7 σ6 H7 _ I7 q7) (fun yv s8 ⟨y, H8, I8, r8, m', hm', w8⟩ => ?_) fun _ _ z => False.elim z
        obtain ⟨a1, a2, a3, a4, a5⟩ := back I8
        refine append_at (hsz := by rw [List.size_toArray, ← r'.length]; exact hz') a4 fun h9 hs9 hD9 => ?_
        have e9 : us.toArray.push yv = (us ++ [yv]).toArray := by simp
        rw [e9] at hD9
        refine ⟨m', hm', i + 1, ys ++ [y], us ++ [yv], c + 1, H8, ?_, T.keep _ _ _ a2 fun b hb o e => hs9.extBut b o (fun z => hDf (z ▸ hb)) e, a3, hD9, a5, r'.append (.cons r8 .nil), ?_, w8⟩
        · refine a1.turned (t' := s8.toks) (it := s.heap.objs.size) (fun b o hb e => hs9.extBut b o hb e) a5 hDC (.inr (Nat.le_refl _)) (fun x c e => Nat.ne_of_lt (cellLt x c (h1 x c e))) fun p hp => Nat.ne_of_lt (pinLt p hp)
        · rw [List.length_append, List.length_singleton]; omega
  exact codeAny_compStart_list (loop _ rfl) (T.self _ 0 _ _ _ (T.keep _ _ _ st fun b _ o e => old b o e) (loop _ rfl))

/-- as a value -/
theorem pe_lcG (b : BlkOk X ts M scope) (hc : X.calm = true) (hi : PI X tg iter wi) (hg : ∀ cl C fp s H, PG (X.blk ts M scope cl C fp s H) tg g) (hif : ∀ cl C fp s H, PIf (X.blk ts M scope cl C fp s H) ifs tf) (he : ∀ cl C fp s H, PE (X.blk ts M scope cl C fp s H) elt te)
    (hs : ∀ x, foldedSetIterable iter X.env x = pure x := by intro _; rfl) : PE X (.ListComp elt [⟨tg, iter, ifs, 0⟩] scope pos) (tComp ts.length wi g tf te) := by
  intro pins s σ H Q I h
  obtain ⟨cl, hcl, h1, h2⟩ := closure_of (scope := scope) (env := X.env) fun p hp hk => I.ok.has p.1 (b.free p hp hk)
  rw [eval_ListComp]
  refine wpAny_comprehension_free (use := none) rfl hs hcl b.kind b.loc (thn (hi pins s σ H _ I h) fun v s1 h' => thn h' fun itv s2 h2' => ?_)
  obtain ⟨it, fp, tn, J, H2, e, I2, T, st2, f2, hw⟩ := h2'
  subst e
  refine blk_run (RR := fun acc C => compPost (model X.prog X.w) X.A X.xe none (EP X pins σ Q) acc C) b hc hg hif he I2 h1 h2 T st2 f2 hw ?_
  intro D C s3 H3 ys m I3 hn hC hL hsz hcell hpin q
  exact ⟨m, hn, fun h' hs' => ⟨.ref D, _, I3.turned (t' := s3.toks) (it := C) (fun b o hb e => hs'.extBut b o hb e) hC hL (.inr hsz) hcell hpin, rfl, q⟩⟩
/-- name = [..] -/
theorem ps_lcG {i : Nat} {y : Str} {py spos : Pos} (hN : X.N.Nodup) (hy : X.N[i]? = some y) (hk : X.env.kindOf y = some .local) (b : BlkOk X ts M scope) (hc : X.calm = true) (hi : PI X tg iter wi)
    (hg : ∀ cl C fp s H, PG (X.blk ts M scope cl C fp s H) tg g) (hif : ∀ cl C fp s H, PIf (X.blk ts M scope cl C fp s H) ifs tf) (he : ∀ cl C fp s H, PE (X.blk ts M scope cl C fp s H) elt te)
    (hsw : swapsWith (.ListComp elt [⟨tg, iter, ifs, 0⟩] scope pos) (some (.Name y py)) spos.line X.env = pure true) (hs : ∀ x, foldedSetIterable iter X.env x = pure x := by intro _; rfl) :
    PS X (.Assign [.Name y py] (.ListComp elt [⟨tg, iter, ifs, 0⟩] scope pos) spos) (tAsg (tComp ts.length wi g tf te) (gName i)) := by
  intro pins s σ H D I h
  obtain ⟨cl, hcl, h1, h2⟩ := closure_of (scope := scope) (env := X.env) fun p hp hk => I.ok.has p.1 (b.free p hp hk)
  rw [exec_Assign_Name_used _ _ _ _ hsw]
  refine wpAny_bind (wpAny_standAt (wpAny_bind ?_))
  show wpAny _ X.A (do let _ ← comprehension (.ListComp elt [⟨tg, iter, ifs, 0⟩] scope pos) scope X.env _ (newList []) false (eval iter X.env) (some (assign (.Name y py) X.env))) _ _ s
  refine wpAny_bind (wpAny_mono (wpAny_comprehension_free (use := some (assign (.Name y py) X.env)) (Q := fun _ s' => SP X pins D .next s') rfl hs hcl b.kind b.loc
    (thn (hi pins s σ H _ I h) fun v s1 h' => thn h' fun itv s2 h2' => ?_)) (fun _ s' hq => wpAny_pure (wpAny_pure hq)) fun _ _ e => e)
  obtain ⟨it, fp, tn, J, H2, e, I2, T, st2, f2, hw⟩ := h2'
  subst e
  refine blk_run (RR := fun acc C => compPost (model X.prog X.w) X.A X.xe (some (assign (.Name y py) X.env)) (fun _ s' => SP X pins D .next s') acc C) (Q := fun v H1 => gName i v σ H1 D.nx) b hc hg hif he I2 h1 h2 T st2 f2 hw ?_
  intro D' C s3 H3 ys m I3 hn hC hL hsz hcell hpin q
  show wpAny _ X.A (assign (.Name y py) X.env (.ref D')) _ _ _
  refine wpAny_assign_Name (store_ok2 (v := .ref D') I3 hN hy (.inl hk) rfl (fun s4 I4 ⟨a, hs4, ha⟩ => ?_) (.inr hk))
  have hCa : C ≠ a := by
    rcases ha with rfl | ha
    · exact hL
    · exact Ne.symm (hcell y a ha)
  exact ⟨m, hn.sameBut hs4 hCa, fun h' hs' => ⟨_, _, I4.turned (t' := s4.toks) (it := C) (fun b o hb e => hs'.extBut b o hb e) hC hL (.inr hsz) hcell hpin, q⟩⟩
end

/-! ### the forms one uses: one name as the target -/
theorem blk_mk {X : Cx} {ts : List Str} {scope sc : Scope} {N : List Str} (eN : X.N = N) (es : X.env.scope = sc) (h1 : scope.kind = .function) (h2 : (scope.names.all fun y => decide (y.2 ≠ .cell)) = true) (h3 : (scope.names.all fun y => decide (y.2 = .local → scope.names.lookup y.1 = some .local)) = true)
    (h4 : (scope.names.all fun p => decide (p.2 = .free → sc.names.lookup p.1 = some .cell ∨ sc.names.lookup p.1 = some .free)) = true) (h5 : (N.all fun y => decide (scope.names.lookup y ≠ some .local)) = true) : BlkOk X ts N scope := by
  subst eN es
  exact ⟨h1, fun y hy => of_decide_eq_true (List.all_eq_true.mp h2 y hy), fun y hy => of_decide_eq_true (List.all_eq_true.mp h3 y hy), fun y hy => of_decide_eq_true (List.all_eq_true.mp h4 y hy), rfl, fun i y hy => .inr ⟨hy, of_decide_eq_true (List.all_eq_true.mp h5 y (List.mem_of_getElem? hy))⟩⟩
/-- what the block of one name is asked, all of it read off the text -/
structure Lc (N : List Str) (sc scope : Scope) (x : Str) : Prop where
  nd : ([x] ++ N).Nodup
  kind : scope.kind = .function
  own : scope.names.lookup x = some .local
  cell : (scope.names.all fun y => decide (y.2 ≠ .cell)) = true
  loc : (scope.names.all fun y => decide (y.2 = .local → scope.names.lookup y.1 = some .local)) = true
  free : (scope.names.all fun p => decide (p.2 = .free → sc.names.lookup p.1 = some .cell ∨ sc.names.lookup p.1 = some .free)) = true
  apart : (N.all fun y => decide (scope.names.lookup y ≠ some .local)) = true
section
variable {X : Cx} {N : List Str} {sc scope : Scope} {x : Str} {px pos : Pos} {elt iter : Expr} {ifs : List Expr} {wi : TI} {tf : TT} {te : TE}
theorem Lc.ok (L : Lc N sc scope x) (eN : X.N = N) (es : X.env.scope = sc) : BlkOk X [x] N scope := blk_mk eN es L.kind L.cell L.loc L.free L.apart
theorem Lc.tg (L : Lc N sc scope x) (eN : X.N = N) (cl : List (Str × Addr)) (C : Addr) (fp : List Addr) (s : Shared) (H : Hp) : PG (X.blk [x] N scope cl C fp s H) (.Name x px) (gName 0) :=
  pg_name (X := X.blk [x] N scope cl C fp s H) (i := 0) (by show ([x] ++ N).Nodup; exact L.nd) rfl (.inl (lookup_relabel_local L.own)) (.inr (lookup_relabel_local L.own))
theorem pe_lc (L : Lc N sc scope x) (eN : X.N = N) (es : X.env.scope = sc) (hc : X.calm = true) (hi : PI X (.Name x px) iter wi) (hif : ∀ cl C fp s H, PIf (X.blk [x] N scope cl C fp s H) ifs tf) (he : ∀ cl C fp s H, PE (X.blk [x] N scope cl C fp s H) elt te)
    (hs : ∀ x, foldedSetIterable iter X.env x = pure x := by intro _; rfl) : PE X (.ListComp elt [⟨.Name x px, iter, ifs, 0⟩] scope pos) (tComp 1 wi (gName 0) tf te) :=
  pe_lcG (ts := [x]) (M := N) (L.ok eN es) hc hi (fun cl C fp s H => L.tg eN cl C fp s H) hif he hs
theorem ps_lc {i : Nat} {y : Str} {py spos : Pos} (hN : X.N.Nodup) (hy : X.N[i]? = some y) (hk : X.env.kindOf y = some .local) (L : Lc N sc scope x) (eN : X.N = N) (es : X.env.scope = sc) (hc : X.calm = true) (hi : PI X (.Name x px) iter wi)
    (hif : ∀ cl C fp s H, PIf (X.blk [x] N scope cl C fp s H) ifs tf) (he : ∀ cl C fp s H, PE (X.blk [x] N scope cl C fp s H) elt te)
    (hsw : swapsWith (.ListComp elt [⟨.Name x px, iter, ifs, 0⟩] scope pos) (some (.Name y py)) spos.line X.env = pure true := by with_unfolding_all rfl) (hs : ∀ x, foldedSetIterable iter X.env x = pure x := by intro _; rfl) :
    PS X (.Assign [.Name y py] (.ListComp elt [⟨.Name x px, iter, ifs, 0⟩] scope pos) spos) (tAsg (tComp 1 wi (gName 0) tf te) (gName i)) :=
  ps_lcG (ts := [x]) (M := N) hN hy hk (L.ok eN es) hc hi (fun cl C fp s H => L.tg eN cl C fp s H) hif he hsw hs
end
end L2

namespace L2
open PySem PySem.Spec PyProof.Rows
theorem at_upd {H : Hp} {l p : Addr} {o u : HO} (h : H l = some o) (hp : H p = none) : upd H p u l = some o := by
  rw [upd_ne (ne_of_none h hp)]; exact h
theorem same_upd {H : Hp} {p : Addr} {u : HO} (hp : H p = none) : Same H (upd H p u) := fun _ _ h => at_upd h hp
theorem same_upd' {H H1 : Hp} {p : Addr} {u : HO} (h : Same H H1) (hp : H1 p = none) : Same H (upd H1 p u) := h.trans (same_upd hp)
theorem szOk {n : Nat} (h : n ≤ 16777216) : n ≤ sizeLine := by rw [sizeLine_eq]; exact h
theorem szLt {n : Nat} (h : n < 16777216) : n < sizeLine := by rw [sizeLine_eq]; exact h
/-- the ints of a cut of ints -/
theorem cut_ints (ns : List Int) (lo hi : Option Int) : cutV (ns.map V.int) lo hi = ((ns.drop (HT.sIx ns.length 0 lo)).take (HT.sIx ns.length ns.length hi - HT.sIx ns.length 0 lo)).map V.int := by
  unfold cutV
  rw [List.length_map, ← List.map_drop, ← List.map_take]
end L2
namespace L2
open PySem PySem.Spec PyProof.Rows
/-- two pieces of a block with an assertion between them -/
def tCut (t u : TS) : TS := fun D σ H => ∃ N : St → Hp → Prop, t { D with nx := N } σ H ∧ ∀ σ' H', N σ' H' → u D σ' H'
theorem pss_cut {X : Cx} {st : Stmt} {rest : List Stmt} {t u : TS} (h1 : PS X st t) (h2 : PSs X rest u) : PSs X (st :: rest) (tCut t u) := by
  intro pins s σ H D I h
  obtain ⟨N, hN, hu⟩ := h
  refine wpAny_execs_cons (thn (h1 pins s σ H { D with nx := N } I hN) fun f s1 q => ?_)
  cases f with
  | next =>
    obtain ⟨σ', H', I', q⟩ := q
    exact h2 pins s1 σ' H' D I' (hu σ' H' q)
  | ret v => exact q
  | brk => exact q
  | cont => exact q
end L2

/-! ## sum, all, any of a list; a loop over a text -/
namespace L2
open PySem PySem.Spec PyProof.Rows
theorem preSum_take (ns : List Int) : ∀ i, i ≤ ns.length → preSum (fun i => ns.getD i 0) i = (ns.take i).sum
  | 0, _ => rfl
  | i + 1, h => by
    have e : ns[i]? = some (ns.getD i 0) := by
      rw [List.getD_eq_getElem?_getD, List.getElem?_eq_getElem (by omega)]; rfl
    rw [List.take_add_one, e, List.sum_append]
    show preSum (fun i => ns.getD i 0) i + ns.getD i 0 = _
    rw [preSum_take ns i (by omega)]
    simp
section
variable {X : Cx}
theorem list_lt {h : Heap} {p : Addr} {its : Array Value} (l : h.IsList p its) : p < h.objs.size := by
  obtain ⟨o, e, _⟩ := l
  exact Heap.lt_size e
theorem item_int {ns : List Int} {its : List Value} (r : Vals (ns.map V.int) its) {i : Nat} {v : Value} (h : its.toArray[i]? = some v) : ∃ t, v = .int (ns.getD i 0) t := by
  have h' : its[i]? = some v := by simpa using h
  have hl := r.length
  rw [List.length_map] at hl
  have hi : i < its.length := (List.getElem?_eq_some_iff.mp h').1
  obtain ⟨u, e1, r1⟩ := r.get (i := i) (x := .int (ns.getD i 0)) (by
    rw [List.getElem?_map, List.getElem?_eq_getElem (by omega), List.getD_eq_getElem?_getD, List.getElem?_eq_getElem (by omega)]; rfl)
  rw [h'] at e1
  cases e1
  exact r1
theorem call_sum (hc : X.calm = true) : CallR X (.builtin "sum") (fun xs H Q => ∃ (p : Addr) (ns : List Int), xs = [.ref p] ∧ SqL X.K H p (ns.map V.int) ∧ Q (.int ns.sum) H) := by
  intro pins s σ H xs us Q I r h
  obtain ⟨p, ns, rfl, hq, q⟩ := h
  obtain ⟨u, rfl, rx⟩ := vals1 r
  cases rx
  obtain ⟨its, r', pl, hz⟩ := I.list hq
  have hlt := list_lt pl.isList
  have hlen : its.toArray.size = ns.length := by rw [List.size_toArray, ← r'.length, List.length_map]
  refine call_sum_walkG (wpAny_pyIter_list pl.isList ?_)
  refine ⟨s.heap.objs.size, _, _, _, _, _, fun i => ns.getD i 0, rfl, Walks.list (A := X.A.in1) (I.ok.hd hc) s.heap.objs.size p (Nat.ne_of_lt hlt) its.toArray, ⟨⟨_, Heap.get?_push_size _ rfl, rfl, rfl⟩, pl.isList.push _⟩, fun b hb => ?_, fun i v hP => item_int r' hP, fun h' tk t' hk => ?_⟩
  · show b < (s.heap.push _).objs.size
    rw [Heap.size_push]
    rcases List.mem_cons.mp hb with rfl | hb
    · exact Nat.lt_succ_self _
    · rw [List.mem_singleton.mp hb]; exact Nat.lt_succ_of_lt hlt
  · refine ⟨.int ns.sum, H, I.kept (t' := tk) fun b o e => hk b o (fun z => Nat.ne_of_lt (Heap.lt_size e) (List.mem_singleton.mp z)) (Heap.get?_push_of_some _ e), ⟨t', ?_⟩, q⟩
    rw [hlen, preSum_take ns _ (Nat.le_refl _), List.take_length]
/-! ### over a text -/
end
end L2

/-! ## min of a list with a default -/
namespace L2
open PySem PySem.Spec PyProof.Rows
section
variable {prog : Program} {w : World} {A : Around} {R : Result → Shared → Prop} {I p : Addr} {its : List Value} {ns : List Int} {d : Value}
end
end L2
namespace L2
open PySem PySem.Spec PyProof.Rows
section
variable {prog : Program} {w : World} {A : Around} {R : Result → Shared → Prop} {I p : Addr} {its : List Value} {ns : List Int} {d : Value}
/-- a built-in function's call with keywords, by its tree -/
theorem tree_kw {id : String} {b : Builtin} {args : List Value} {kw : List (Str × Value)} {E : Value → Shared → Prop} {s : Shared} {Q : Value → Shared → Prop} (hk : builtinKind id = none) (hp : plainId id = true) (hb : entryFor table id = some b) (ha : argsOk id ⟨args, kw⟩)
    (hc : wpAny (model prog w) A.in1 (b ⟨args, kw⟩) (fun fin s' => match fin with
      | .done f => (match (Except.ok f : Result) with | .ok (.ret v) => Q v s' | .ok _ => False | .error e => E e s')
      | .again c' => c'.quiet = true ∧ codeAny (model prog w) A c' (fun r s' => match r with | .ok (.ret v) => Q v s' | .ok _ => False | .error e => E e s') s') E s) : wpAny (model prog w) A (call (.builtin id) args kw) Q E s := by
  refine wpAny_call (codeAny_call_builtin hp hb ?_)
  simp only [checkBuiltinCall, hk]
  cases hsig : Manifest.signature? id with
  | none => exact wpAny_pure hc
  | some sig =>
    simp only [argsOk, hsig] at ha
    have h2 : Bind.checkArgs id sig ⟨args, kw⟩ = pure () := ha
    show wpAny _ A.in1 (Bind.checkArgs id sig ⟨args, kw⟩) _ _ s
    rw [h2]; exact wpAny_pure hc
end
section
variable {X : Cx} {x : Str} {p pos : Pos} {e : Expr} {es : List Expr} {t tk : TA} {id : String} {kws : List Keyword} {ks : List Str} {r : List V → List V → Hp → VK → Prop}
end
end L2

/-! ## texts: slices, names -/
namespace L2
open PySem PySem.Spec PyProof.Rows
section
variable {X : Cx}
/-- z[lo:hi] of a text -/
theorem sl_str : SlR X (fun x lo hi H Q => ∃ z, x = .str z ∧ z.length ≤ sizeLine ∧ Q (.str (Txt.slice z lo hi)) H) := by
  intro pins s σ H x v vl vu lo hi sl Q I rx hs pl pu h
  obtain ⟨z, rfl, hz, q⟩ := h
  obtain ⟨t, rfl⟩ := rx
  refine ⟨"str", _, F.slot_str_getitem.lookup, typeIs_str _ _ _, ?_⟩
  have fin : ∀ (t' : Tok) (k : Nat), EP X pins σ Q (.str (Txt.slice z lo hi) t') { s with toks := k } := fun t' k => ⟨.str _, H, I.tok k, ⟨t', rfl⟩, q⟩
  obtain ⟨o, ho, hc, hd⟩ := hs
  cases pl with
  | none =>
    cases pu with
    | none => exact wpAny_getItem_str_slice (l := none) (u := none) (st := none) ⟨o, ho, hc, hd⟩ rfl (post_val_or_str ⟨Nat.le_trans (Txt.slice_le z _ _) hz, fin⟩)
    | int j uj => exact wpAny_getItem_str_slice (l := none) (u := some (j, uj)) (st := none) ⟨o, ho, hc, hd⟩ rfl (post_val_or_str ⟨Nat.le_trans (Txt.slice_le z _ _) hz, fin⟩)
  | int i ui =>
    cases pu with
    | none => exact wpAny_getItem_str_slice (l := some (i, ui)) (u := none) (st := none) ⟨o, ho, hc, hd⟩ rfl (post_val_or_str ⟨Nat.le_trans (Txt.slice_le z _ _) hz, fin⟩)
    | int j uj => exact wpAny_getItem_str_slice (l := some (i, ui)) (u := some (j, uj)) (st := none) ⟨o, ho, hc, hd⟩ rfl (post_val_or_str ⟨Nat.le_trans (Txt.slice_le z _ _) hz, fin⟩)
end
end L2
namespace L2
open PySem PySem.Spec PyProof.Rows
section
variable {X : Cx}
end
end L2

/-! ## a def with defaults -/
namespace L2
open PySem PySem.Spec PyProof.Rows
end L2
namespace L2
open PySem PySem.Spec PyProof.Rows
/-! ### range(a, b, c), c written and positive -/
section
variable {X : Cx} {tg : Expr}
end
end L2
namespace L2
open PySem PySem.Spec PyProof.Rows
end L2

/-! ## more rules: insert, a list taken apart, a comprehension with a test, == of lists of lists -/
namespace L2
open PySem PySem.Spec PyProof.Rows
section
variable {X : Cx}
def rInsert : V → List V → Hp → VK → Prop := fun x vs H Q => ∃ (l : Addr) (xs : List V) (i : Nat) (y : V), x = .ref l ∧ vs = [.int i, y] ∧ H l = some (.lst xs) ∧ i ≤ xs.length ∧ xs.length < sizeLine ∧ Q .non (upd H l (.lst (xs.take i ++ y :: xs.drop i)))
theorem insert_arr (its : List Value) (w : Value) {i : Nat} {x : Int} (hx : x = i) (hi2 : i ≤ its.length) : ((its.toArray.extract 0 (if x < 0 then (x + (its.toArray.size : Int)).toNat else min x.toNat its.toArray.size)).push w ++ its.toArray.extract (if x < 0 then (x + (its.toArray.size : Int)).toNat else min x.toNat its.toArray.size)) = (its.take i ++ w :: its.drop i).toArray := by
  subst hx
  rw [if_neg (by omega), Int.toNat_natCast, List.size_toArray, Nat.min_eq_left hi2]
  apply Array.toList_inj.mp
  simp
  exact List.take_of_length_le (by rw [List.length_drop]; exact Nat.le_refl _)
theorem call_insert {prog : Program} {w : World} {A : Around} {E : Value → Shared → Prop} {s : Shared} {l : Addr} {its : List Value} {n : Nat} {x : Int} {t : Tok} {y : Value} {Q : Value → Shared → Prop} (e : s.heap.get? l = some { cls := .type "list", data := .seq its.toArray n })
    (hf : Builtin.List.listFitsIndex x = true) (hz : its.length ≤ sizeLine)
    (h : Q .none { s with heap := s.heap.update l (Obj.mapSeq fun xs => have k := if x < 0 then (x + (xs.size : Int)).toNat else min x.toNat xs.size; (xs.extract 0 k).push y ++ xs.extract k), toks := s.toks }) :
    wpAny (model prog w) A (call (.builtin "list.insert") [.ref l, .int x t, y]) Q E s :=
  call_meets F.slot_list_insert ⟨_, e, rfl⟩ F.entry_list_insert (F.args_list_insert_3 _ _ _) (AutoSeq1.list_insert_list_int_val_1 l its.toArray n x t y (by simp [hf]) (by rw [List.size_toArray]; exact hz)) ⟨e, h⟩
theorem mt_insert : MtM X "list.insert" rInsert := by
  intro pins s σ H x vs v us Q I rx rv h
  obtain ⟨l, xs, i, y, rfl, rfl, hH, hi, hz, q⟩ := h
  cases rx
  obtain ⟨u, w, rfl, ru, rw'⟩ := rv.two
  obtain ⟨t, rfl⟩ := ru
  obtain ⟨z, its, n, r, hl, e⟩ := I.lstM hH
  have hi2 : i ≤ its.length := by omega
  have h2 : i < 16777216 := by rw [sizeLine_eq] at hz; omega
  have h3 : (i : Int) < 16777216 := by omega
  have h4 : (16777216 : Int) ≤ 2 ^ 63 := by decide
  have h5 : -(2 ^ 63) ≤ (0 : Int) := by decide
  have hf : Builtin.List.listFitsIndex (i : Int) = true := fitsIndex_both (Int.le_trans h5 (Int.natCast_nonneg i)) (Int.lt_of_lt_of_le h3 h4)
  refine call_insert e hf (by omega) ?_
  refine ⟨.non, _, I.lset (its' := its.take i ++ w :: its.drop i) hH e (insert_arr its w rfl hi2) ((r.take i).append (.cons rw' (r.drop i))) ?_, rfl, q⟩
  rw [List.length_append, List.length_cons, List.length_take, List.length_drop]
  omega
/-- (a, b, ..) = a list of that length -/
def gLst (K : PySem.W.Frag) (n : Nat) (t : TGs) : TG := fun v σ H Q => ∃ a xs, v = .ref a ∧ SqL K H a xs ∧ xs.length = n ∧ t xs σ H Q
theorem pg_lst {es : List Expr} {k : Nat} {t : TGs} {n : Nat} {pos : Pos} (hc : X.calm = true) (h : PGs X es t)
    (hn : (assignEach es X.env).length = n := by rfl) (hst : (assignEach es X.env).findIdx? (·.1) = none := by rfl) : PG X (.Tuple es k pos) (gLst X.K n t) := by
  intro pins s σ H v u Q I r hw
  obtain ⟨a, xs, e1, hq, hl, hw⟩ := hw
  subst e1
  cases r
  obtain ⟨its, rv, ht, hz⟩ := I.list hq
  have hsz : (assignEach es X.env).length = its.toArray.size := by rw [hn, ← hl, rv.length, List.size_toArray]
  rw [assign_Tuple]
  refine wpAny_bind (wpAny_standAt ?_)
  unfold unpack
  rw [hsz, hst]
  refine wpAny_bind (wpAny_holding (PySem.W.kun_itemsOf (I.ok.hd hc) ht.isList fun h' hx => ?_))
  have I1 : Inv X pins σ H { s with heap := h' } := I.kept (t' := s.toks) fun b o e => hx b o (Nat.ne_of_lt (Heap.lt_size e)) e
  exact h pins _ σ H xs _ Q I1 (by simpa using rv) hw
theorem ix_tupK {K : PySem.W.Frag} (h : X.K = K) : IxR X (rIxT K) := h ▸ ix_tup
theorem ix_listK {K : PySem.W.Frag} (h : X.K = K) : IxR X (rIxL K) := h ▸ ix_list
/-! ### == and != of what is made of lists, tuples and flat things, by levels -/
inductive EqH (K : PySem.W.Frag) (H : Hp) : Nat → V → V → Bool → Prop
  | flat {n x y} : flatV x = true → flatV y = true → EqH K H n x y (eqV x y)
  | same {n a} : EqH K H n (.ref a) (.ref a) true
  | lst {n a b xs ys} (e : Nat → Bool) : a ≠ b → SqL K H a xs → SqL K H b ys → xs.length = ys.length → (∀ j, j < xs.length → EqH K H n (xs.getD j .non) (ys.getD j .non) (e j)) → EqH K H (n + 1) (.ref a) (.ref b) ((List.range xs.length).all e)
  | lstN {n a b xs ys} : a ≠ b → SqL K H a xs → SqL K H b ys → xs.length ≠ ys.length → EqH K H (n + 1) (.ref a) (.ref b) false
  | tup {n a b xs ys} (e : Nat → Bool) : a ≠ b → SqT K H a xs → SqT K H b ys → xs.length = ys.length → (∀ j, j < xs.length → EqH K H n (xs.getD j .non) (ys.getD j .non) (e j)) → EqH K H (n + 1) (.ref a) (.ref b) ((List.range xs.length).all e)
theorem in1_units {A : Around} : A.in1.units = A.units + 1 := rfl
theorem vals_at {xs : List V} {us : List Value} (r : Vals xs us) {j : Nat} (h1 : j < us.toArray.size) : RelV (xs.getD j .non) us.toArray[j] := by
  have l1 : j < xs.length := by rw [r.length]; simpa using h1
  obtain ⟨u, e1, q1⟩ := r.get (i := j) (x := xs[j]) (List.getElem?_eq_getElem l1)
  have a1 : us.toArray[j] = u := by
    have := (List.getElem?_eq_some_iff.mp e1).2
    simpa using this
  have g1 : xs.getD j .non = xs[j] := by simp [List.getD_eq_getElem?_getD, l1]
  rw [a1, g1]
  exact q1
theorem eqH_at {pins : List (Addr × Obj)} {σ : St} {H : Hp} {s : Shared} (I : Inv X pins σ H s) {n : Nat} {x y : V} {b : Bool} (h : EqH X.K H n x y b) : ∀ {A : Around} {u v : Value}, RelV x u → RelV y v → A.units + n ≤ cLine → SeqAt.EqAt A s u v b := by
  induction h with
  | flat f g => intro A u v r r' _; exact eqAt_V r r' f g
  | same => intro A u v r r' _; cases r; cases r'; exact SeqAt.EqAt.same _
  | @lst n a b xs ys e hne ha hb hl _ ih =>
    intro A u v r r' hu
    cases r; cases r'
    obtain ⟨us, r, pl, _⟩ := I.list ha
    obtain ⟨ws, r', pl', _⟩ := I.list hb
    refine SeqAt.EqAt.of_refs hne ?_
    have hz : us.toArray.size = ws.toArray.size := by simp only [List.size_toArray]; rw [← r.length, ← r'.length, hl]
    have e1 : xs.length = us.toArray.size := by rw [List.size_toArray, ← r.length]
    rw [e1]
    refine SeqAt.RcAt.lists pl.isList pl'.isList hz (by omega) fun j h1 h2 => ?_
    exact ih j (by rw [e1]; exact h1) (vals_at r h1) (vals_at r' h2) (by rw [in1_units]; omega)
  | lstN hne ha hb hl =>
    intro A u v r r' hu
    cases r; cases r'
    obtain ⟨us, r, pl, _⟩ := I.list ha
    obtain ⟨ws, r', pl', _⟩ := I.list hb
    refine SeqAt.EqAt.of_refs hne (SeqAt.RcAt.lists_lengths pl.isList pl'.isList ?_ (by omega))
    simp only [List.size_toArray]; rw [← r.length, ← r'.length]; exact bne_iff_ne.mpr hl
  | @tup n a b xs ys e hne ha hb hl _ ih =>
    intro A u v r r' hu
    cases r; cases r'
    obtain ⟨us, r, pl, _⟩ := I.tuple ha
    obtain ⟨ws, r', pl', _⟩ := I.tuple hb
    refine SeqAt.EqAt.of_refs hne ?_
    have hz : us.toArray.size = ws.toArray.size := by simp only [List.size_toArray]; rw [← r.length, ← r'.length, hl]
    have e1 : xs.length = us.toArray.size := by rw [List.size_toArray, ← r.length]
    rw [e1, show (List.range us.toArray.size).all e = ((List.range (min us.toArray.size ws.toArray.size)).all e && us.toArray.size == ws.toArray.size) by rw [← hz, Nat.min_self, beq_self_eq_true, Bool.and_true]]
    refine SeqAt.RcAt.tuples pl pl' (by omega) fun j h1 h2 => ?_
    exact ih j (by rw [e1]; exact h1) (vals_at r h1) (vals_at r' h2) (by rw [in1_units]; omega)
/-- two lists, by their items -/
def rEqD (K : PySem.W.Frag) (neg : Bool) : R2 := fun x y H Q => ∃ a b xs ys, x = .ref a ∧ y = .ref b ∧ SqL K H a xs ∧ SqL K H b ys ∧
  ((xs.length ≠ ys.length ∧ Q (.bl neg) H) ∨ (xs.length = ys.length ∧ ∃ e : Nat → Bool, (∀ j, j < xs.length → EqH K H 60 (xs.getD j .non) (ys.getD j .non) (e j)) ∧ Q (.bl (if neg then !(List.range xs.length).all e else (List.range xs.length).all e)) H))
theorem op_eqD (hu : X.A.units + 64 < cLine) : OpR X (compareOp .Eq) (rEqD X.K false) := by
  intro pins s σ H x y v u Q I rx ry h
  obtain ⟨a, b, xs, ys, rfl, rfl, ha, hb, h⟩ := h
  cases rx
  cases ry
  obtain ⟨us, r, pl, _⟩ := I.list ha
  obtain ⟨ws, r', pl', _⟩ := I.list hb
  rcases h with ⟨hl, q⟩ | ⟨hl, e, he, q⟩
  · have hz : (us.toArray.size != ws.toArray.size) = true := by
      simp only [List.size_toArray]; rw [← r.length, ← r'.length]; exact bne_iff_ne.mpr hl
    exact SeqAt.eq_list_lengthsAt pl.isList pl'.isList hz (by omega) ⟨.bl false, H, I, rfl, q⟩
  · have hz : us.toArray.size = ws.toArray.size := by simp only [List.size_toArray]; rw [← r.length, ← r'.length, hl]
    have e1 : xs.length = us.toArray.size := by rw [List.size_toArray, ← r.length]
    refine SeqAt.eq_listAt (e := e) pl.isList pl'.isList hz (by omega) (fun j h1 h2 => eqH_at I (he j (by rw [e1]; exact h1)) (vals_at r h1) (vals_at r' h2) (by rw [in1_units]; omega)) ⟨.bl ((List.range xs.length).all e), H, I, ?_, q⟩
    show Value.bool _ = Value.bool _
    rw [e1]
theorem op_neD (hu : X.A.units + 64 < cLine) : OpR X (compareOp .NotEq) (rEqD X.K true) := by
  intro pins s σ H x y v u Q I rx ry h
  obtain ⟨a, b, xs, ys, rfl, rfl, ha, hb, h⟩ := h
  cases rx
  cases ry
  obtain ⟨us, r, pl, _⟩ := I.list ha
  obtain ⟨ws, r', pl', _⟩ := I.list hb
  rcases h with ⟨hl, q⟩ | ⟨hl, e, he, q⟩
  · have hz : (us.toArray.size != ws.toArray.size) = true := by
      simp only [List.size_toArray]; rw [← r.length, ← r'.length]; exact bne_iff_ne.mpr hl
    exact SeqAt.RcNeAt.lists_lengths pl.isList pl'.isList hz (by omega) _ _ _ _ ⟨.bl true, H, I, rfl, q⟩
  · have hz : us.toArray.size = ws.toArray.size := by simp only [List.size_toArray]; rw [← r.length, ← r'.length, hl]
    have e1 : xs.length = us.toArray.size := by rw [List.size_toArray, ← r.length]
    refine SeqAt.RcNeAt.lists (e := e) pl.isList pl'.isList hz (by omega) (fun j h1 h2 => eqH_at I (he j (by rw [e1]; exact h1)) (vals_at r h1) (vals_at r' h2) (by rw [in1_units]; omega)) _ _ _ _ ⟨.bl (!(List.range xs.length).all e), H, I, ?_, q⟩
    show Value.bool _ = Value.bool _
    rw [e1]
end
/-- a comprehension over a list of known things, with a test -/
theorem comp_map {K : PySem.W.Frag} {α : Type} {a : Addr} {ps : List α} {r : α → V} {k : Nat} {g : TG} {tf : TT} {te : TE} {σ : St} {H : Hp} {Q : VK} (p : α → Bool) (f : α → V) (hq : SqL K H a (ps.map r)) (hl : ps.length ≤ sizeLine)
    (hs : ∀ x H', x ∈ ps → Same H H' → ∀ (R : V → Hp → Prop) (R0 : Hp → Prop), (p x = true → ∀ H2, Same H' H2 → R (f x) H2) → (p x = false → ∀ H2, Same H' H2 → R0 H2) →
      g (r x) (List.replicate k none ++ σ) H' fun σ4 H4 => σ4.drop k = σ ∧ tf σ4 H4 fun b H5 => if b = true then te σ4 H5 R else R0 H5)
    (hd : ∀ H', Same H H' → NewL Q ((ps.filter p).map f) H') :
    ∃ W : Nat → Nat → List V → Hp → Prop, (∃ m, W 0 m [] H) ∧ ∀ i m ys H2, W i m ys H2 →
      ((Itl K a).stop i H2 ∧ NewL Q ys H2) ∨
      ((Itl K a).go i H2 ∧ ys.length < sizeLine ∧ ∀ x H3, (Itl K a).yld i H2 x H3 → g x (List.replicate k none ++ σ) H3 fun σ4 H4 => σ4.drop k = σ ∧ tf σ4 H4 fun b H5 =>
        if b = true then te σ4 H5 fun y H6 => ∃ m', m' < m ∧ W (i + 1) m' (ys ++ [y]) H6 else ∃ m', m' < m ∧ W (i + 1) m' ys H5) := by
  refine ⟨fun i m ys H2 => m = ps.length - i ∧ i ≤ ps.length ∧ ys = ((ps.take i).filter p).map f ∧ Same H H2, ⟨ps.length, by simp, Nat.zero_le _, rfl, Same.refl H⟩, ?_⟩
  rintro i m ys H2 ⟨rfl, hi, rfl, sm⟩
  have q2 : SqL K H2 a (ps.map r) := sm.seq hq
  by_cases hlt : i < ps.length
  · refine .inr ⟨⟨ps.map r, r ps[i], q2, by simp [hlt]⟩, ?_, fun x H3 y => ?_⟩
    · rw [List.length_map]
      have := List.length_filter_le p (ps.take i)
      rw [List.length_take] at this
      omega
    · obtain ⟨e, y⟩ := y
      subst e
      have ex : (ps.map r)[i]? = some x := y _ q2
      have ei : ps[i]? = some ps[i] := by simp [hlt]
      have exr : x = r ps[i] := by rw [List.getElem?_map, ei] at ex; exact (Option.some.inj ex).symm
      subst exr
      have tk : ps.take (i + 1) = ps.take i ++ [ps[i]] := by rw [List.take_add_one, ei]; rfl
      refine hs ps[i] _ (List.getElem_mem hlt) sm _ _ (fun hp H4 s4 => ?_) (fun hp H4 s4 => ?_)
      · refine ⟨ps.length - (i + 1), by omega, rfl, hlt, ?_, sm.trans s4⟩
        rw [tk, List.filter_append, List.map_append]
        simp [hp]
      · refine ⟨ps.length - (i + 1), by omega, rfl, hlt, ?_, sm.trans s4⟩
        rw [tk, List.filter_append, List.map_append]
        simp [hp]
  · have e : i = ps.length := by omega
    subst e
    refine .inl ⟨⟨ps.map r, q2, by simp⟩, ?_⟩
    rw [List.take_length]
    exact hd H2 sm
/-! ### the heap, where a list that is not yet of the start is written -/
theorem same_updN {H H1 : Hp} {p : Addr} {u : HO} (h : Same H H1) (hp : H p = none) : Same H (upd H1 p u) := fun b o e => by
  have hne : b ≠ p := fun z => by rw [z, hp] at e; cases e
  rw [upd_ne hne]
  exact h b o e
theorem upd_tup {H : Hp} {a p : Addr} {l : List V} {xs : List V} {u : HO} (h : H a = some (.tup l)) (hp : H p = some (.lst xs)) : upd H p u a = some (.tup l) := by
  have hne : a ≠ p := fun z => by rw [z, hp] at h; cases h
  rw [upd_ne hne]
  exact h
theorem upd_oth {H : Hp} {a p : Addr} {o u : HO} (h : H a = some o) (hne : a ≠ p) : upd H p u a = some o := by rw [upd_ne hne]; exact h
end L2

/-! ## comprehensions whose target is several names -/
namespace L2
open PySem PySem.Spec PyProof.Rows
section
variable {X : Cx} {N M : List Str} {sc scope : Scope} {ts : List Str} {tg : Expr} {pos : Pos} {elt iter : Expr} {ifs : List Expr} {wi : TI} {g : TG} {tf : TT} {te : TE}
end
theorem hu1 {n : Nat} (h : n + 64 < cLine) : n + 1 < cLine := by omega
end L2


namespace L2
open PySem PySem.Spec PyProof.Rows

end L2

namespace L2
open PySem PySem.Spec PyProof.Rows

section
variable (P : Program) (w : World)
end

section
variable {P : Program} {w : World} {H H' : Hp} {h h' : Heap} {a : Addr} {o : HO}
end

section
variable {P : Program} {w : World} {H : Hp} {h h' : Heap} {x e : Addr} {o' : HO}
end


section
variable {fs fs' ex ex' : List Addr} {H H1 H2 : Hp} {h h1 h2 h' : Heap} {a x e : Addr} {o : HO}
end


end L2

namespace L2
open PySem PySem.Spec PyProof.Rows

section
variable {X : Cx} {pins : List (Addr × Obj)} {σ : List (Option V)} {H H' : Hp} {s : Shared} {h' : Heap}

end


end L2

namespace L2
open PySem PySem.Spec PyProof.Rows
section
variable {X : Cx}

variable {a b : Expr} {ta tb : TE} {pos : Pos}
variable {tA tB' : TT} {rest : List Expr}
end
end L2

namespace L2
open PySem PySem.Spec PyProof.Rows


section
variable {X : Cx} {pins : List (Addr × Obj)} {σ : St} {H : Hp} {s : Shared} {a : Addr} {xs ys : List V}
end


section
variable {X : Cx} {pins : List (Addr × Obj)} {σ : St} {H : Hp} {s : Shared} {E : Value → Shared → Prop}
end


section
variable {X : Cx} {st : Stmt} {rest : List Stmt} {t u : TS} {e : Expr} {te : TE} {pos : Pos}
end


section
variable {X : Cx} {pos : Pos}
end


section
variable {X : Cx} {pos : Pos}
end


end L2

namespace L2
open PySem PySem.Spec PyProof.Rows
section
variable {X : Cx} {tg : Expr}
end


end L2

namespace L2
open PySem PySem.Spec PyProof.Rows

section
variable {X : Cx} {a b c : Expr} {ta tb tc : TE} {pos : Pos}

end


section
variable {X : Cx} {a b c : Expr} {ta tb tc : TE} {pos : Pos}
end
end L2

namespace L2
open PySem PySem.Spec PyProof.Rows


section
variable {prog : Program} {w : World} {A : Around} {E : Value → Shared → Prop} {s : Shared} {K : PySem.W.Frag} {x dx C f : Addr} {mA : Str → Option Value} {name : Str} {v : Value}

end


section
variable {P : Program} {w : World} {H H' : Hp} {h h' : Heap} {a C dx : Addr} {fs fs' : List (Str × V)}
end


section
variable {X : Cx} {pins : List (Addr × Obj)} {σ : St} {H : Hp} {s : Shared} {a C dx : Addr} {fs : List (Str × V)} {f : Str} {v : V} {A : Around} {E : Value → Shared → Prop}

end


section
variable {X : Cx} {o e value : Expr} {f : Str} {pos pos' tpos : Pos} {ta tv : TE}
end


section
variable {X : Cx} {pins : List (Addr × Obj)} {σ : St} {H : Hp} {s : Shared} {A : Around} {E : Value → Shared → Prop} {Q : Value → Shared → Prop} {c : Value} {b : Bool}
end
end L2

namespace L2
open PySem PySem.Spec PyProof.Rows


section
variable {X : Cx} {e : Expr} {es : List Expr} {te : TE} {t : TA} {pos : Pos}
end


section
variable {X : Cx} {pins : List (Addr × Obj)} {σ : St} {H : Hp} {s s' : Shared}
end


section
variable {X : Cx} {CX : CXT} {k : Nat} {f C : Addr} {fd : FuncData} {ps : List Str} {sp : Sp} {dvs : List V} {ds : List Value} {E : XK} {x m : Str} {p pos apos : Pos} {e o : Expr} {es : List Expr} {ta : TE} {t : TA}

end


section
variable {X : Cx} {CX : CXT} {k : Nat} {f C : Addr} {fd : FuncData} {ps ks : List Str} {sp : Sp} {E : XK} {x m : Str} {p pos apos kpos : Pos} {e o : Expr} {es : List Expr} {kws : List Keyword} {te ta : TE} {t tk : TA} {nm : Option Str}
variable {g : List Value → List Value → List Value} {gV : List V → List V → List V}
end


end L2

namespace L2
open PySem PySem.Spec PyProof.Rows
section
variable {X : Cx} {x : Str} {p pos : Pos} {e : Expr} {es : List Expr} {t : TA} {id T : String} {r : List V → Hp → VK → Prop}

end
end L2

namespace L2
open PySem PySem.Spec PyProof.Rows


section
variable {κ : Type} [DecidableEq κ]
def valV (kvs : List (κ × V)) (k : κ) : Option V := (kvs.find? fun kv => decide (kv.1 = k)).map (·.2)
/-- in its place, or at the end -/
def putK (kvs : List (κ × V)) (k : κ) (v : V) : List (κ × V) :=
  if (kvs.any fun kv => decide (kv.1 = k)) = true then kvs.map (fun kv => if kv.1 = k then (kv.1, v) else kv) else kvs ++ [(k, v)]
theorem valV_pos {p : κ × V} {r : List (κ × V)} {k : κ} (e : p.1 = k) : valV (p :: r) k = some p.2 := by simp [valV, List.find?_cons, e]
theorem valV_neg {p : κ × V} {r : List (κ × V)} {k : κ} (e : ¬ p.1 = k) : valV (p :: r) k = valV r k := by simp [valV, List.find?_cons, e]
theorem valV_any (k : κ) : ∀ kvs : List (κ × V), (kvs.any fun kv => decide (kv.1 = k)) = (valV kvs k).isSome
  | [] => rfl
  | p :: r => by
    rw [List.any_cons]
    by_cases e : p.1 = k
    · simp only [valV_pos e, decide_eq_true e, Bool.true_or, Option.isSome_some]
    · rw [valV_neg e, decide_eq_false e, Bool.false_or]; exact valV_any k r
theorem valV_map (k j : κ) (y : V) : ∀ kvs : List (κ × V), valV (kvs.map fun kv => if kv.1 = k then (kv.1, y) else kv) j = (valV kvs j).map fun x => if j = k then y else x
  | [] => rfl
  | p :: r => by
    have ih := valV_map k j y r
    rw [List.map_cons]
    by_cases h : p.1 = k
    · rw [if_pos h]
      by_cases e : p.1 = j
      · rw [valV_pos (p := (p.1, y)) e, valV_pos e, Option.map_some, if_pos (e.symm.trans h)]
      · rw [valV_neg (p := (p.1, y)) e, valV_neg e, ih]
    · rw [if_neg h]
      by_cases e : p.1 = j
      · rw [valV_pos (p := p) e, valV_pos e, Option.map_some, if_neg (fun z => h (e.trans z))]
      · rw [valV_neg (p := p) e, valV_neg e, ih]
theorem valV_snoc (k j : κ) (y : V) : ∀ kvs : List (κ × V), valV kvs k = none → valV (kvs ++ [(k, y)]) j = if j = k then some y else valV kvs j
  | [], _ => by
    by_cases e : k = j
    · rw [if_pos e.symm]; exact valV_pos (p := (k, y)) e
    · rw [if_neg (fun z => e z.symm)]; exact valV_neg (p := (k, y)) e
  | p :: r, hn => by
    rw [List.cons_append]
    have hk : ¬ p.1 = k := fun z => by rw [valV_pos z] at hn; cases hn
    rw [valV_neg hk] at hn
    have ih := valV_snoc k j y r hn
    by_cases e : p.1 = j
    · rw [valV_pos e, valV_pos e, if_neg (fun z => hk (e.trans z))]
    · rw [valV_neg e, valV_neg e, ih]
theorem valV_put (kvs : List (κ × V)) (k j : κ) (y : V) : valV (putK kvs k y) j = if j = k then some y else valV kvs j := by
  unfold putK
  by_cases a : (kvs.any fun kv => decide (kv.1 = k)) = true
  · rw [if_pos a, valV_map]
    rw [valV_any] at a
    by_cases e : j = k
    · obtain ⟨x, hx⟩ := Option.isSome_iff_exists.mp a
      rw [if_pos e, e, hx, Option.map_some, if_pos rfl]
    · rw [if_neg e]
      cases valV kvs j with
      | none => rfl
      | some x => rw [Option.map_some, if_neg e]
  · rw [if_neg a]
    refine valV_snoc k j y kvs ?_
    rw [valV_any] at a
    cases q : valV kvs k with
    | none => rfl
    | some x => rw [q] at a; exact (a rfl).elim
theorem length_putK (kvs : List (κ × V)) (k : κ) (v : V) : (putK kvs k v).length ≤ kvs.length + 1 := by
  unfold putK
  split
  · rw [List.length_map]; omega
  · rw [List.length_append, List.length_cons, List.length_nil]; omega
theorem RelO.isSome_eq {o : Option V} {u : Option Value} (r : RelO o u) : o.isSome = u.isSome := by
  cases o with
  | none => cases u with
    | none => rfl
    | some _ => exact (show False from r).elim
  | some _ => cases u with
    | none => exact (show False from r).elim
    | some _ => rfl
theorem RelO.getD {o : Option V} {u : Option Value} {d : V} {d' : Value} (r : RelO o u) (rd : RelV d d') : RelV (o.getD d) (u.getD d') := by
  cases o with
  | none => cases u with
    | none => exact rd
    | some _ => exact (show False from r).elim
  | some _ => cases u with
    | none => exact (show False from r).elim
    | some _ => exact r

/-- raw tables of the same keys -/
theorem KV.val {kvs : List (κ × V)} {vs : List (κ × Value)} (r : KV kvs vs) (k : κ) : RelO (valV kvs k) (valueAt vs k) := by
  unfold KV at r
  induction r with
  | nil => exact True.intro
  | @cons p q ps qs h t ih =>
    obtain ⟨h1, h2⟩ := h
    by_cases e : p.1 = k
    · have e' : q.1 = k := h1.symm.trans e
      have b : valueAt (q :: qs) k = some q.2 := by simp [valueAt, List.find?_cons, e']
      rw [valV_pos e, b]; exact h2
    · have e' : ¬ q.1 = k := fun z => e (h1.trans z)
      have b : valueAt (q :: qs) k = valueAt qs k := by simp [valueAt, List.find?_cons, e']
      rw [valV_neg e, b]; exact ih
theorem KV.any {kvs : List (κ × V)} {vs : List (κ × Value)} (r : KV kvs vs) (k : κ) : (kvs.any fun kv => decide (kv.1 = k)) = vs.any fun kv => decide (kv.1 = k) := by
  unfold KV at r
  induction r with
  | nil => rfl
  | cons h t ih => rw [List.any_cons, List.any_cons, ih, h.1]
theorem KV.repl {kvs : List (κ × V)} {vs : List (κ × Value)} (r : KV kvs vs) (k : κ) {y : V} {u : Value} (ry : RelV y u) :
    KV (kvs.map fun kv => if kv.1 = k then (kv.1, y) else kv) (vs.map fun kv => if kv.1 = k then (kv.1, u) else kv) := by
  unfold KV at r ⊢
  induction r with
  | nil => exact .nil
  | @cons p q ps qs h t ih =>
    rw [List.map_cons, List.map_cons]
    refine .cons ?_ ih
    obtain ⟨h1, h2⟩ := h
    by_cases e : p.1 = k
    · rw [if_pos e, if_pos (h1.symm.trans e)]; exact ⟨h1, ry⟩
    · rw [if_neg e, if_neg (fun z => e (h1.trans z))]; exact ⟨h1, h2⟩
theorem KV.put {kvs : List (κ × V)} {vs : List (κ × Value)} (r : KV kvs vs) (k : κ) {y : V} {u : Value} (ry : RelV y u) : KV (putK kvs k y) (stored vs k u) := by
  unfold putK stored
  rw [r.any k]
  by_cases e : (vs.any fun kv => decide (kv.1 = k)) = true
  · rw [if_pos e, if_pos e]; exact r.repl k ry
  · rw [if_neg e, if_neg e]; exact Paired.snoc r ⟨rfl, ry⟩
theorem KV.length {kvs : List (κ × V)} {vs : List (κ × Value)} (r : KV kvs vs) : kvs.length = vs.length := Paired.length r
end



theorem kV_is {P : Program} {w : World} {k : Key} {u : Value} (r : RelV (kV k) u) : (mixKind P w).is k u = true := by
  cases k with
  | inl i => obtain ⟨t, e⟩ := (show ∃ t, u = Value.int i t from r); subst e; exact mixKind_int P w i t
  | inr x => obtain ⟨t, e⟩ := (show ∃ t, u = Value.str x t from r); subst e; exact mixKind_str P w x t
theorem items_are {P : Program} {w : World} : ∀ {ks : List Key} {us : List Value}, Vals (ks.map kV) us → ItemsAre (mixKind P w) ks us
  | [], _, r => by rw [List.map_nil] at r; cases r; exact .nil
  | k :: ks, _, r => by
    rw [List.map_cons] at r
    cases r with
    | cons h t => exact .cons (kV_is h) (items_are t)

/-- raw entries of a dict with tuple keys -/
abbrev KT (H : Hp) : List (List Key × V) → List (List Key × Addr × Value) → Prop := Paired fun p q => p.1 = q.1 ∧ H q.2.1 = some (.tup (p.1.map kV)) ∧ RelV p.2 q.2.2
theorem KT.val {H : Hp} {kvs : List (List Key × V)} {xs : List (List Key × Addr × Value)} (r : KT H kvs xs) (k : List Key) : RelO (valV kvs k) ((atKey xs k).map (·.2)) := by
  induction r with
  | nil => exact True.intro
  | @cons p q ps qs h t ih =>
    obtain ⟨h1, _, h2⟩ := h
    by_cases e : p.1 = k
    · have e' : q.1 = k := h1.symm.trans e
      have b : atKey (q :: qs) k = some q.2 := by simp [atKey, List.find?_cons, e']
      rw [valV_pos e, b]; exact h2
    · have e' : ¬ q.1 = k := fun z => e (h1.trans z)
      have b : atKey (q :: qs) k = atKey qs k := by simp [atKey, List.find?_cons, e']
      rw [valV_neg e, b]; exact ih
theorem KT.repl {H : Hp} {kvs : List (List Key × V)} {xs : List (List Key × Addr × Value)} (r : KT H kvs xs) (k : List Key) {y : V} {u : Value} (ry : RelV y u) :
    KT H (kvs.map fun kv => if kv.1 = k then (kv.1, y) else kv) (xs.map (putAt k u)) := by
  induction r with
  | nil => exact .nil
  | @cons p q ps qs h t ih =>
    rw [List.map_cons, List.map_cons]
    refine .cons ?_ ih
    obtain ⟨h1, h2, h3⟩ := h
    unfold putAt
    by_cases e : p.1 = k
    · rw [if_pos e, if_pos (h1.symm.trans e)]; exact ⟨h1, h2, ry⟩
    · rw [if_neg e, if_neg (fun z => e (h1.trans z))]; exact ⟨h1, h2, h3⟩
theorem KT.put {H : Hp} {kvs : List (List Key × V)} {xs : List (List Key × Addr × Value)} (r : KT H kvs xs) (k : List Key) {b : Addr} {y : V} {u : Value} (hb : H b = some (.tup (k.map kV))) (ry : RelV y u) :
    KT H (putK kvs k y) (storedH xs k b u) := by
  have e : (kvs.any fun kv => decide (kv.1 = k)) = (atKey xs k).isSome := by
    rw [valV_any, (r.val k).isSome_eq, Option.isSome_map]
  unfold putK storedH
  rw [e]
  by_cases q : (atKey xs k).isSome = true
  · rw [if_pos q, if_pos q]; exact r.repl k ry
  · rw [if_neg q, if_neg q]; exact Paired.snoc r ⟨rfl, hb, ry⟩
theorem KT.keeps {H H' : Hp} {kvs : List (List Key × V)} {xs : List (List Key × Addr × Value)} (r : KT H kvs xs) (ht : ∀ b ys, H b = some (.tup ys) → H' b = some (.tup ys)) : KT H' kvs xs :=
  Paired.mapP r fun _ _ z => ⟨z.1, ht _ _ z.2.1, z.2.2⟩

section
variable {P : Program} {w : World} {H : Hp} {h : Heap} {a : Addr}
theorem rd_of {u : HO} (ok : HOk P w H h) (e : Rd H a u) : ObjOk P w H h a u := e.ok ok
theorem dk_rd {kvs : List (Key × V)} (ok : HOk P w H h) (e : Rd H a (.dK kvs)) : kvs.length ≤ sizeLine ∧ (a == sysModules) = false ∧ ∃ vs, KV kvs vs ∧ h.DictOf (mixKind P w) a vs :=
  show ObjOk P w H h a (.dK kvs) from rd_of ok e
theorem dk_of {kvs : List (Key × V)} (ok : HOk P w H h) (e : H a = some (.dK kvs)) : kvs.length ≤ sizeLine ∧ (a == sysModules) = false ∧ ∃ vs, KV kvs vs ∧ h.DictOf (mixKind P w) a vs := dk_rd ok (.inl e)
/-- a tracked tuple of ints and texts is a key -/
theorem key_of {ks : List Key} (ok : HOk P w H h) (e : H a = some (.tup (ks.map kV))) : (tupleKind (mixKind P w)).is h ks a := by
  obtain ⟨_, its, r, o, h1, h2, n, h3⟩ := (show ObjOk P w H h a (.tup (ks.map kV)) from ok a _ e)
  exact ⟨o, its.toArray, n, h1, h2, h3, by simpa using items_are r⟩
theorem dt_rd {kvs : List (List Key × V)} (ok : HOk P w H h) (e : Rd H a (.dT kvs)) : kvs.length ≤ sizeLine ∧ (a == sysModules) = false ∧
    ∃ xs, KT H kvs xs ∧ h.DictOfH (tupleKind (mixKind P w)) a xs := by
  obtain ⟨z, y, xs, r, o, es, ep, h1, h2, h3, h4, h5⟩ := (show ObjOk P w H h a (.dT kvs) from rd_of ok e)
  refine ⟨z, y, xs, r, o, es, ep, h1, h2, h3, h4, fun x hx => ?_, h5⟩
  have all : ∀ {l : List (List Key × V)} {m : List (List Key × Addr × Value)}, KT H l m → ∀ x ∈ m, (tupleKind (mixKind P w)).is h x.1 x.2.1 := by
    intro l m q
    induction q with
    | nil => intro x hx; exact nomatch hx
    | @cons p q ps qs hq t ih =>
      intro x hx
      rcases List.mem_cons.mp hx with e | hx
      · subst e
        exact key_of ok (by rw [← hq.1]; exact hq.2.1)
      · exact ih x hx
  exact all r x hx
theorem dt_of {kvs : List (List Key × V)} (ok : HOk P w H h) (e : H a = some (.dT kvs)) : kvs.length ≤ sizeLine ∧ (a == sysModules) = false ∧
    ∃ xs, KT H kvs xs ∧ h.DictOfH (tupleKind (mixKind P w)) a xs := dt_rd ok (.inl e)
end

/-- what the dict at a holds at the key y -/
def DGet (H : Hp) (a : Addr) (y : V) (r : Option V) : Prop :=
  (∃ kvs k, Rd H a (.dK kvs) ∧ y = kV k ∧ r = valV kvs k) ∨ ∃ kvs k b, Rd H a (.dT kvs) ∧ y = .ref b ∧ H b = some (.tup (k.map kV)) ∧ r = valV kvs k
/-- the heap behind a[y] = v -/
def DPut (H : Hp) (a : Addr) (y v : V) (H' : Hp) : Prop :=
  (∃ kvs k, H a = some (.dK kvs) ∧ y = kV k ∧ kvs.length < sizeLine ∧ H' = upd H a (.dK (putK kvs k v))) ∨
  ∃ kvs k b, H a = some (.dT kvs) ∧ y = .ref b ∧ H b = some (.tup (k.map kV)) ∧ kvs.length < sizeLine ∧ H' = upd H a (.dT (putK kvs k v))
theorem DGet.t {H : Hp} {a b : Addr} {kvs : List (List Key × V)} {k : List Key} (e : H a = some (.dT kvs)) (eb : H b = some (.tup (k.map kV))) : DGet H a (.ref b) (valV kvs k) := .inr ⟨kvs, k, b, .inl e, rfl, eb, rfl⟩
theorem DPut.t {H : Hp} {a b : Addr} {kvs : List (List Key × V)} {k : List Key} {v : V} (e : H a = some (.dT kvs)) (eb : H b = some (.tup (k.map kV))) (hl : kvs.length < sizeLine) :
    DPut H a (.ref b) v (upd H a (.dT (putK kvs k v))) := .inr ⟨kvs, k, b, e, rfl, eb, hl, rfl⟩


section
variable {X : Cx} {pins : List (Addr × Obj)} {σ : St} {H : Hp} {s : Shared} {a : Addr} {y v : V} {u r : Value} {o : Option V} {A : Around} {E : Value → Shared → Prop}

theorem Inv.big (I : Inv X pins σ H s) : sysModules < s.heap.objs.size := by
  have h : mainGlobals < s.heap.objs.size := (I.mod.glob.keeps I.bk).lt
  exact Nat.lt_trans (by decide) h

/-- a dict's object is replaced -/
theorem d_write {h' : Heap} {t' : Nat} {ob : HO} (I : Inv X pins σ H s) (mu : Mut (H a)) (hs : Heap.SameBut a s.heap h') (he : ∃ q, h'.get? a = some q) (new : ObjOk X.prog X.w (upd H a ob) h' a ob) :
    Inv X pins σ (upd H a ob) { s with heap := h', toks := t' } :=
  I.write (x := a) (e := a) mu (.inl rfl) (fun b q hb z => (hs.2 b hb).trans z) he new
theorem dk_new {P : Program} {w : World} {H' : Hp} {h' : Heap} {kvs : List (Key × V)} {vs : List (Key × Value)} (z : kvs.length ≤ sizeLine) (hd : (a == sysModules) = false) (rel : KV kvs vs) (dd : h'.DictOf (mixKind P w) a vs) :
    ObjOk P w H' h' a (.dK kvs) := ⟨z, hd, vs, rel, dd⟩
/-- d[y] = v -/
theorem d_setItem {H' : Hp} {Q : Unit → Shared → Prop} (hu : A.units + 1 < cLine) (I : Inv X pins σ H s) (g : DPut H a y v H') (ry : RelV y u) (rv : RelV v r) (h : ∀ s', Inv X pins σ H' s' → Q () s') :
    wpAny (model X.prog X.w) A (setItem (.ref a) u r) Q E s := by
  rcases g with ⟨kvs, k, e, ey, l, eH⟩ | ⟨kvs, k, b, e, ey, eb, l, eH⟩
  · subst ey eH
    obtain ⟨z, hd, vs, rel, dd⟩ := dk_of I.hok e
    have hz : vs.length ≤ sizeLine := by rw [← rel.length]; exact z
    have hl : (putK kvs k v).length ≤ sizeLine := by have := length_putK kvs k v; omega
    refine wpAny_setItem_pairs (hsz := hz) (kV_is ry) dd fun h' dd' hs => h _ ?_
    have he : ∃ q, h'.get? a = some q := let ⟨q, _, _, hq, _⟩ := dd'; ⟨q, hq⟩
    exact d_write I (by rw [e]; exact True.intro) hs he (dk_new hl hd (rel.put k rv) dd')
  · subst ey eH
    cases (show u = Value.ref b from ry)
    obtain ⟨z, hd, xs, rel, dd⟩ := dt_of I.hok e
    have hz : xs.length ≤ sizeLine := by rw [← Paired.length rel]; exact z
    have hl : (putK kvs k v).length ≤ sizeLine := by have := length_putK kvs k v; omega
    refine wpAny_setItem_heap (hsz := hz) (tupleKind_room_in1 hu) (key_of I.hok eb) dd fun h' dd' hs => h _ ?_
    obtain ⟨q, es, ep, hq, h2, h3, h4, _, h5⟩ := dd'
    refine d_write I (by rw [e]; exact True.intro) hs ⟨q, hq⟩ ⟨hl, hd, _, (rel.put k eb rv).keeps fun c ys ec => ?_, q, es, ep, hq, h2, h3, h4, h5⟩
    rw [upd_ne (ne_of ec e (fun z => nomatch z))]
    exact ec
end

section
variable {X : Cx} {pins : List (Addr × Obj)} {σ : St} {H : Hp} {s : Shared} {a : Addr} {kvs : List (Key × V)} {k : Key} {u : Value} {A : Around} {E : Value → Shared → Prop}
end



/-- d[y] = v -/
def sDPut (td ty tv : TE) : TS := fun D σ H => tv σ H fun v H1 => td σ H1 fun x H2 => ty σ H2 fun y H3 => ∃ a H4, x = .ref a ∧ DPut H3 a y v H4 ∧ D.nx σ H4
section
variable {X : Cx} {o i e value : Expr} {pos pos' tpos : Pos} {td ty tv : TE}
theorem ps_dput (hu : X.A.units + 1 < cLine) (ho : PE X o td) (hi : PE X i ty) (hv : PE X value tv) (hs : swapsWith value (some (.Subscript o i pos')) pos.line X.env = pure false) :
    PS X (.Assign [.Subscript o i pos'] value pos) (sDPut td ty tv) := by
  intro pins s σ H D I h
  refine wpAny_Assign_Subscript (thn (hv pins s σ H _ I h) fun r s1 ⟨v, H1, I1, rv, q1⟩ => thn (ho pins s1 σ H1 _ I1 q1) fun u s2 ⟨x, H2, I2, rx, q2⟩ => thn (hi pins s2 σ H2 _ I2 q2) fun iv s3 ⟨y, H3, I3, ry, a, H4, ex, g, q3⟩ => ?_) hs
  subst ex
  obtain rfl : u = Value.ref a := rx
  exact d_setItem hu I3 g ry rv fun s4 I4 => ⟨σ, H4, I4, q3⟩
end



theorem dt_empty {P : Program} {w : World} {H : Hp} (h : Heap) (hb : sysModules < h.objs.size) : ObjOk P w H (h.push { cls := .type "dict", data := .dict #[] }) h.objs.size (.dT []) :=
  ⟨Nat.zero_le _, beq_eq_false_iff_ne.mpr (Ne.symm (Nat.ne_of_lt hb)), [], .nil, _, #[], 0, Heap.get?_push_size _ rfl, ⟨rfl, rfl, rfl⟩, rfl, rfl, List.nodup_nil⟩
def tDNewT : TE := fun _ H Q => ∀ p, H p = none → Q (.ref p) (upd H p (.dT []))
section
variable {X : Cx} {pos : Pos}
theorem pe_dnewT : PE X (.Dict [] [] pos) tDNewT := fun pins s σ H Q I h =>
  wpAny_Dict_empty ⟨.ref s.heap.objs.size, _, I.laid (a := s.heap.objs.size) (o := .dT []) (t' := s.toks) (fun _ _ q => Heap.get?_push_of_some _ q) (Nat.le_refl _) (dt_empty s.heap I.big), rfl, h _ (I.hok.fresh (Nat.le_refl _))⟩
end

structure M2 (X : Cx) (o : Expr) (m : Str) (apos : Pos) (e f : Expr) (cpos : Pos) : Prop where
  base : attributeBase o m X.env (eval o X.env) = eval o X.env
  few : ((backTo cpos (starEach [e, f] X.env)).all (fun x => !x.1) && (backToKw cpos (keywordEach [] X.env)).all (fun x => x.1.isSome)
    && decide (([e, f] : List Expr).length + ([] : List Keyword).length + (if ([] : List Keyword).isEmpty then 0 else 1) < 30)) = true
  line : (apos.endLine == cpos.line) = true
  trees : backTo cpos (starEach [e, f] X.env) = [(false, eval e X.env), (false, eval f X.env)]

/-- a is a dict, whatever its keys -/
def IsD (H : Hp) (a : Addr) : Prop := (∃ kvs, Rd H a (.dK kvs)) ∨ ∃ kvs, Rd H a (.dT kvs)
theorem isD_at {X : Cx} {pins : List (Addr × Obj)} {σ : St} {H : Hp} {s : Shared} {a : Addr} (I : Inv X pins σ H s) (d : IsD H a) :
    s.TypeIs (.ref a) "dict" ∧ (∀ b, Value.ref a = .ref b → ∃ ob, s.heap.get? b = some ob ∧ ob.dict = none) ∧ (a == sysModules) = false := by
  rcases d with ⟨kvs, e⟩ | ⟨kvs, e⟩
  · obtain ⟨_, hd, vs, _, dd⟩ := dk_rd I.hok e
    refine ⟨dd.typeIs, fun b q => ?_, hd⟩
    cases q
    obtain ⟨ob, _, _, h1, h2, _⟩ := dd
    exact ⟨ob, h1, h2.2.1⟩
  · obtain ⟨_, hd, xs, _, dd⟩ := dt_rd I.hok e
    refine ⟨dd.typeIs, fun b q => ?_, hd⟩
    cases q
    obtain ⟨ob, _, _, h1, h2, _⟩ := dd
    exact ⟨ob, h1, h2.2.1⟩

section
variable {X : Cx} {pins : List (Addr × Obj)} {σ : St} {H : Hp} {s : Shared} {a : Addr} {y d : V} {u r : Value} {o : Option V} {A : Around} {E : Value → Shared → Prop}
/-- d.get(y, x) -/
theorem d_get2 {Q : Value → Shared → Prop} (hu : A.units + 1 < cLine) (I : Inv X pins σ H s) (g : DGet H a y o) (ry : RelV y u) (rd : RelV d r) (h : ∀ w' s', Inv X pins σ H s' → RelV (o.getD d) w' → Q w' s') :
    wpAny (model X.prog X.w) A (call (.builtin "dict.get") [.ref a, u, r]) Q E s := by
  rcases g with ⟨kvs, k, e, ey, l⟩ | ⟨kvs, k, b, e, ey, eb, l⟩
  · subst ey
    obtain ⟨z, hd, vs, rel, dd⟩ := dk_rd I.hok e
    refine call_meetsIn PySem.F.slot_dict_get dd.typeIs PySem.F.entry_dict_get (PySem.F.args_dict_get_3 _ _ _) (meets_dict_get_default (mixKind X.prog X.w) a (kV_is ry) hd r) ⟨_, dd.mapOf, h _ _ (I.tok _) ?_⟩
    rw [l]
    exact (rel.val k).getD rd
  · subst ey
    cases (show u = Value.ref b from ry)
    obtain ⟨z, hd, xs, rel, dd⟩ := dt_rd I.hok e
    refine call_meetsIn PySem.F.slot_dict_get dd.typeIs PySem.F.entry_dict_get (PySem.F.args_dict_get_3 _ _ _) (meetsH_dict_get_default (tupleKind (mixKind X.prog X.w)) a b hd r) ⟨tupleKind_room_in1 hu, k, xs, key_of I.hok eb, dd, h _ _ (I.tok _) ?_⟩
    rw [l]
    exact (rel.val k).getD rd
end

def tDGet2 (td ty tx : TE) : TE := fun σ H Q => td σ H fun x H1 => ∃ a, x = .ref a ∧ IsD H1 a ∧ ty σ H1 fun y H2 => tx σ H2 fun z H3 => ∃ o, DGet H3 a y o ∧ Q (o.getD z) H3
section
variable {X : Cx} {o e f : Expr} {apos cpos : Pos} {td ty tx : TE}
theorem pe_dget2 (hu : X.A.units + 1 < cLine) (ho : PE X o td) (he : PE X e ty) (hf : PE X f tx) (m : M2 X o "get" apos e f cpos) : PE X (.Call (.Attribute o "get" apos) [e, f] [] cpos) (tDGet2 td ty tx) := by
  intro pins s σ H Q I h
  refine wpAny_Call_method m.base m.few m.line PySem.F.plainAttrs_dict PySem.F.slot_dict_get PySem.F.type_dict_get (thn (ho pins s σ H _ I h) fun u s1 ⟨x, H1, I1, rx, a, ex, d, q1⟩ => ?_)
  subst ex
  obtain rfl : u = Value.ref a := rx
  obtain ⟨t1, t2, _⟩ := isD_at I1 d
  refine ⟨t1, t2, ?_⟩
  rw [m.trees]
  refine Calls.callWith_builtin rfl (Calls.evalArgs_plain (Calls.spliced_cons (thn (he pins s1 σ H1 _ I1 q1) fun iv s2 ⟨y, H2, I2, ry, q2⟩ =>
    Calls.spliced_cons (thn (hf pins s2 σ H2 _ I2 q2) fun fv s3 ⟨z, H3, I3, rz, ov, g, q3⟩ => Calls.spliced_nil ?_))))
  exact d_get2 hu I3 g ry rz fun w' s4 I4 rw' => ⟨_, H3, I4, rw', q3⟩
end


section
variable {X : Cx} {pins : List (Addr × Obj)} {σ : St} {H : Hp} {s : Shared} {a : Addr} {kvs : List (Key × V)} {A : Around} {E : Value → Shared → Prop}
end


section
variable {X : Cx} {pins : List (Addr × Obj)} {σ : St} {H : Hp} {s : Shared} {a : Addr} {y : V} {u : Value} {A : Around} {E : Value → Shared → Prop}
end
end L2

namespace Att
open PySem PySem.W PySem.Calls PyProof.Rows


section
variable {prog : Program} {w : World} {A : Around} {E : Value → Shared → Prop} {s : Shared} {K : Frag}

end
end Att

namespace L2
open PySem PySem.Spec PyProof.Rows

end L2

namespace L2
open PySem PySem.Spec PyProof.Rows

end L2




namespace L2
open PySem PySem.Spec PyProof.Rows


section
variable {P : Program} {w : World} {K : PySem.W.Frag} {mg : Str → Option Value} {base : Heap}
end
section
variable {X : Cx}
end


section
variable {κ : Type} [DecidableEq κ]
end
end L2

/-! ## classes without an __init__, and a method of one of several classes -/
namespace L2
open PySem PySem.Spec PyProof.Rows
section
variable {X : Cx} {C : Addr}
end
section
variable {X : Cx} {CX : CXT} {k : Nat} {ι : Type} {C f : ι → Addr} {fd : ι → FuncData} {ps : List Str} {sp : ι → Sp} {E : XK} {m : Str} {pos apos : Pos} {e o : Expr} {es : List Expr} {ta : TE} {t : TA}
end
end L2
namespace L2
open PySem PySem.Spec PyProof.Rows
end L2

namespace Bk
open PySem PyProof.Rows
section
variable {prog : Program} {w : World} {A : Around} {E : Value → Shared → Prop} {s : Shared} {a₀ : Array Keyed}
end
end Bk

namespace Bk
end Bk

/-! ## a sort with a key, whole numbers from nought on: what is asked of the heap is that the old is kept -/
namespace L2
open PySem PySem.Spec PyProof.Rows
/-- all that was there is there -/
abbrev Kp (h h' : Heap) : Prop := ∀ b o, h.get? b = some o → h'.get? b = some o
section
variable {prog : Program} {w : World} {A : Around} {E : Value → Shared → Prop} {s : Shared} {h₀ : Heap} {a kS : Addr} {vs : List Value} {ns : List Int} {g : Int → Int} {keys : Array Value} {e e1 : Nat} {P : PySem.Fin → Shared → Prop}
end
section
variable {prog : Program} {w : World} {A : Around} {E : Value → Shared → Prop} {s : Shared} {r : Addr} {n : Nat} {t u v : Tok}
end
end L2

/-! ## key=lambda place: -numbers[place], numbers taken over from around it -/
namespace L2
open PySem PySem.Spec PySem.Calls PyProof.Rows
section
variable {prog : Program} {w : World} {A : Around} {s : Shared}
end
end L2

/-! ## a law under which a def's code makes code of its own: its table is tracked from the beginning -/
namespace L2
open PySem PySem.Spec PyProof.Rows
/-- where the built-in module lies -/
def BM (mg : Str → Option Value) (h : Heap) : Prop := ∃ bm ob, mg "__builtins__" = some (.ref bm) ∧ bm ≠ builtinsNs ∧ bm ≠ mainGlobals ∧ h.get? bm = some ob ∧ ob.cls = .type "module" ∧ ob.dict = some builtinsNs ∧ ob.data = .plain
theorem BM.at {mg : Str → Option Value} {h h' : Heap} {P : Addr} {ps : Array Value} (b : BM mg h) (k : Kp h h') (hP : h'.get? P = some (PySem.W.tabObj ps)) : h'.BuiltinsAt mg P := by
  obtain ⟨bm, ob, a1, a2, a3, a4, a5, a6, a7⟩ := b
  refine ⟨bm, ob, a1, a2, a3, fun z => ?_, k _ _ a4, a5, a6, a7⟩
  rw [z] at a4
  have e := k _ _ a4
  rw [hP] at e
  cases e
  cases a5
theorem law_callT {P : Program} {w : World} {K : PySem.W.Frag} {mg mb : Str → Option Value} {CX : CXT} {k : Nat} {fa a c T : Addr} {fd : FuncData} {x : Str} {sp : Sp} {s₁ : Shared} {vs : List Value} {ns : List Int}
    (KX : K.In s₁.heap) (hns : s₁.heap.Ns mainGlobals mg) (hb : s₁.heap.Ns builtinsNs mb) (hbb : ∀ x : Str, x ≠ "__name__" → mb x = bootBuiltins x) (hlim : s₁.heap.NoLimit) (hg : s₁.gens = #[])
    (ha : s₁.heap.get? a = some { cls := .type "list", data := .seq vs.toArray }) (hi : IntsAre vs ns) (hl : ns.length ≤ sizeLine) (hr : Room k callerA)
    (hC : PySem.W.CodeHd s₁.heap c T) (hT : s₁.heap.get? T = some (PySem.W.tabObj #[])) (hKT : K.lookup T = none) (hbm : BM mg s₁.heap)
    (F : ∀ base : Heap, K.In base → base.Ns mainGlobals mg → BM mg base → FnOk P w K mg base CX k fa fd [x] sp) (hbind : ∀ (s : Shared) (u : Value), BindsTo s fd ⟨[u], []⟩ [(x, u)])
    (hsp : ∀ H : Hp, H T = some (.tbl #[]) → SqL K H a (ns.map V.int) → sp [.ref a] H (fun v _ => v = .bl true) fun _ _ _ => False)
    (hCX : ∀ H e s', CX [] H s₁ (fun _ _ _ => False) e s' → False) :
    codeAny (model P w) callerA (.call (.ref fa) ⟨[.ref a], []⟩) (fun r s' => r = .ok (.ret (.bool true)) ∧ OldK s₁.heap s'.heap ∧ s'.os = s₁.os ∧ AllBare s'.gens) s₁ := by
  have rv := vals_ints hi
  have lenV := hi.length
  have aT : a ≠ T := fun z => by rw [z, hT] at ha; cases ha
  let fz : HO := .frz { cls := .type "list", data := .seq vs.toArray } (.lst (ns.map V.int))
  let H : Hp := fun b => if b = T then some (.tbl #[]) else if b = a ∧ K.lookup a = none then some fz else none
  have tr : ∀ b u, H b = some u → (b = T ∧ u = .tbl #[]) ∨ (b = a ∧ K.lookup a = none ∧ u = fz) := fun b u e => by
    by_cases h1 : b = T
    · have e' : some (HO.tbl #[]) = some u := (if_pos h1).symm.trans e
      exact .inl ⟨h1, (Option.some.inj e').symm⟩
    · have e1 : (if b = a ∧ K.lookup a = none then some fz else none) = some u := (if_neg h1).symm.trans e
      by_cases h2 : b = a ∧ K.lookup a = none
      · have e2 : some fz = some u := (if_pos h2).symm.trans e1
        exact .inr ⟨h2.1, h2.2, (Option.some.inj e2).symm⟩
      · have e2 : (none : Option HO) = some u := (if_neg h2).symm.trans e1
        cases e2
  have HT : H T = some (.tbl #[]) := if_pos rfl
  have hok : HOk P w H s₁.heap := fun b u e => by
    rcases tr b u e with ⟨rfl, rfl⟩ | ⟨rfl, _, rfl⟩
    · exact hT
    · exact ⟨ha, by rw [List.length_map]; exact hl, vs, _, rv, ha⟩
  have free : ∀ {b : Addr} {o : Obj}, s₁.heap.get? b = some o → (o.cls ≠ .none ∨ ∃ es ep, o.data = .dict es ep) → b ≠ a → H b = none := fun {b o} e d nb => by
    cases q : H b with
    | none => rfl
    | some u =>
      rcases tr b u q with ⟨rfl, _⟩ | ⟨z, _⟩
      · rw [hT] at e
        cases e
        rcases d with d | ⟨_, _, d⟩
        · exact absurd rfl d
        · cases d
      · exact absurd z nb
  have nsK : ∀ {b : Addr} {m : Str → Option Value}, s₁.heap.Ns b m → (hidT s₁.heap H).Ns b m := fun {b m} ⟨o, es, ep, e, d, r⟩ =>
    ⟨o, es, ep, hidT_get e (free e (.inr ⟨es, ep, d⟩) fun z => by rw [z, ha] at e; cases e; cases d), d, r⟩
  have hKb : K.In (hidT s₁.heap H) := fun b o e => hidT_get (KX b o e) (by
    cases q : H b with
    | none => rfl
    | some u =>
      rcases tr b u q with ⟨rfl, _⟩ | ⟨rfl, z, _⟩
      · rw [hKT] at e; cases e
      · rw [z] at e; cases e)
  have hBM : BM mg (hidT s₁.heap H) := by
    obtain ⟨bm, ob, a1, a2, a3, a4, a5, a6, a7⟩ := hbm
    refine ⟨bm, ob, a1, a2, a3, hidT_get a4 (free a4 (.inl (by rw [a5]; exact fun z => nomatch z)) fun z => ?_), a5, a6, a7⟩
    rw [z, ha] at a4
    cases a4
    cases a7
  have hM : Mod K mg (hidT s₁.heap H) := ⟨hKb, nsK hns, ⟨mb, nsK hb, hbb⟩, let ⟨mc, h1, h2⟩ := hlim; ⟨mc, nsK h1, h2⟩⟩
  have e0 : Env0 P w K mg (hidT s₁.heap H) callerA [] s₁ H := ⟨rfl, hM, fun b o e => of_hidT e, Nat.le_of_eq (hidT_size _ _), trivial, fun b hb => absurd (show b ∈ ([] : List Addr) from hb) (by simp), hok, .of_eq hg⟩
  have hS : SqL K H a (ns.map V.int) := by
    cases hk : K.lookup a with
    | some o =>
      have e := KX a o hk
      rw [ha] at e
      cases e
      exact .inr ⟨_, vs.toArray, _, hk, rfl, rfl, rfl, by rw [List.size_toArray, lenV]; exact hl, by simpa using rv⟩
    | none => exact .inl (.inr ⟨_, (if_neg aT).trans (if_pos ⟨rfl, hk⟩)⟩)
  refine codeAny_mono ((F _ hKb (nsK hns) hBM).run callerA [] s₁ H ⟨[.ref a], []⟩ [.ref a] [.ref a] _ _ hr e0 (hbind s₁ (.ref a)) (.cons rfl .nil) (hsp H HT hS)) fun r s' h => ?_
  cases r with
  | error e => exact (hCX H e s' h).elim
  | ok fl =>
    cases fl with
    | next => exact False.elim h
    | brk => exact False.elim h
    | cont => exact False.elim h
    | ret u =>
      obtain ⟨v, H', os, bare, un, hok', r', q⟩ := h
      have q' : v = .bl true := q
      subst q'
      obtain rfl : u = Value.bool true := r'
      have old : ∀ b o, s₁.heap.get? b = some o → b ≠ T → s'.heap.get? b = some o := fun b o e nT => by
        cases q : H b with
        | none => exact un.keep b o e q (by intro z; exact absurd (show b ∈ ([] : List Addr) from z) (by simp)) (by simp)
        | some u =>
          rcases tr b u q with ⟨z, _⟩ | ⟨rfl, _, rfl⟩
          · exact absurd z nT
          · have z2 := un.frzs b _ _ q
            obtain ⟨e2, _⟩ := hok' b _ z2
            rw [ha] at e; cases e
            exact e2
      obtain ⟨more, eT⟩ := un.tbls T #[] HT
      have nT : s'.heap.get? T = some (PySem.W.tabObj (#[] ++ more)) := hok' T _ eT
      refine ⟨rfl, ⟨fun b o e => ?_, fun b o e => ?_⟩, os, bare⟩
      · by_cases z : b = T
        · subst z
          rw [hT] at e
          cases e
          exact .inr (.inl ⟨(hC.tab hT).isCodeTable, rfl, #[], more, rfl, nT⟩)
        · exact .inl (old b o e z)
      · by_cases z : b = T
        · exact ⟨_, by rw [z]; exact nT⟩
        · exact ⟨o, old b o e z⟩
end L2


/-! ## a method that may raise, within a try; sorted(d.items()) of an empty dict -/
namespace L2
open PySem PySem.Spec PyProof.Rows
section
variable {X : Cx} {k : Nat} {f C : Addr} {fd : FuncData} {ps : List Str} {sp : Sp} {m : Str} {pos apos : Pos} {e o : Expr} {es : List Expr} {ta : TE} {t : TA}
end
section
variable {X : Cx} {o : Expr} {to : TE} {p apos cpos pos : Pos}
end
end L2

/-! ## the walk of a sort by questions, where the keys are all unlike: it ends with the places in the order of their ranks -/
namespace L2
open PySem PySem.W PyProof.Rows
section
variable {n : Nat} {rk : Nat → Nat} {cmp : Nat → Nat → (Bool → Shared → Prop) → Shared → Prop} {s : Shared}
end
end L2

namespace L2
open PySem PySem.W PyProof.Rows
section
variable {prog : Program} {w : World} {A : Around} {E : Value → Shared → Prop} {s : Shared}
end
/-! ### ranks of texts -/
end L2

/-! ## sorted(d.items()) of a dict of texts -/
namespace L2
open PySem PySem.W PyProof.Rows
theorem paired_get {α β : Type} {F : α → β → Prop} : ∀ {l : List α} {m : List β} {j : Nat} {a : α}, Paired F l m → l[j]? = some a → ∃ b, m[j]? = some b ∧ F a b
  | _, _, 0, a, .cons h _, e => ⟨_, rfl, by cases e; exact h⟩
  | _, _, j + 1, a, .cons _ t, e => paired_get (j := j) t e
theorem paired_len {α β : Type} {F : α → β → Prop} : ∀ {l : List α} {m : List β}, Paired F l m → l.length = m.length
  | _, _, .nil => rfl
  | _, _, .cons _ t => congrArg (· + 1) (paired_len t)
section
variable {X : Cx} {pins : List (Addr × Obj)} {σ : St} {H H2 : Hp} {s : Shared} {h' : Heap}
end
section
variable {X : Cx} {o : Expr} {to : TE} {p apos cpos pos : Pos}
end
end L2

/-! ## sorted of a list of numbers, of a list of texts -/
namespace L2
open PySem PySem.Spec PyProof.Rows
theorem ints_back : ∀ {its : List Value} {ys : List Int}, IntsAre its ys → Vals (ys.map V.int) its
  | _, _, .nil => .nil
  | _, _, .cons _ _ r => .cons ⟨_, rfl⟩ (ints_back r)
section
variable {X : Cx}
end
/-- a comprehension with a test, over a list of known things, whose values are made anew -/
theorem comp_invF {K : PySem.W.Frag} {α : Type} {a : Addr} {ps : List α} {r : α → V} {k : Nat} {g : TG} {tf : TT} {te : TE} {σ : St} {H : Hp} {Q : VK} (J : Nat → List V → Hp → Prop) (j0 : J 0 [] H) (hq : ∀ i ys H', J i ys H' → SqL K H' a (ps.map r)) (hn : ∀ i ys H', J i ys H' → ys.length ≤ i) (hl : ps.length ≤ sizeLine)
    (hs : ∀ i x ys H', ps[i]? = some x → J i ys H' → g (r x) (List.replicate k none ++ σ) H' fun σ4 H4 => σ4.drop k = σ ∧ tf σ4 H4 fun b H5 => if b = true then te σ4 H5 fun y H6 => J (i + 1) (ys ++ [y]) H6 else J (i + 1) ys H5)
    (hd : ∀ ys H', J ps.length ys H' → NewL Q ys H') :
    ∃ W : Nat → Nat → List V → Hp → Prop, (∃ m, W 0 m [] H) ∧ ∀ i m ys H2, W i m ys H2 →
      ((Itl K a).stop i H2 ∧ NewL Q ys H2) ∨
      ((Itl K a).go i H2 ∧ ys.length < sizeLine ∧ ∀ x H3, (Itl K a).yld i H2 x H3 → g x (List.replicate k none ++ σ) H3 fun σ4 H4 => σ4.drop k = σ ∧ tf σ4 H4 fun b H5 =>
        if b = true then te σ4 H5 fun y H6 => ∃ m', m' < m ∧ W (i + 1) m' (ys ++ [y]) H6 else ∃ m', m' < m ∧ W (i + 1) m' ys H5) := by
  refine ⟨fun i m ys H2 => m = ps.length - i ∧ i ≤ ps.length ∧ J i ys H2, ⟨ps.length, by simp, Nat.zero_le _, j0⟩, ?_⟩
  rintro i m ys H2 ⟨rfl, hi, jj⟩
  have q2 : SqL K H2 a (ps.map r) := hq i ys H2 jj
  by_cases hlt : i < ps.length
  · refine .inr ⟨⟨ps.map r, r ps[i], q2, by simp [hlt]⟩, ?_, fun x H3 y => ?_⟩
    · have := hn i ys H2 jj
      omega
    · obtain ⟨e, y⟩ := y
      subst e
      have ex : (ps.map r)[i]? = some x := y _ q2
      have ei : ps[i]? = some ps[i] := by simp [hlt]
      have exr : x = r ps[i] := by rw [List.getElem?_map, ei] at ex; exact (Option.some.inj ex).symm
      subst exr
      have h := hs i ps[i] ys _ ei jj
      have key : ∀ zs H6, J (i + 1) zs H6 = ∃ m', m' < ps.length - i ∧ m' = ps.length - (i + 1) ∧ i + 1 ≤ ps.length ∧ J (i + 1) zs H6 := fun zs H6 => propext ⟨fun z => ⟨ps.length - (i + 1), by omega, rfl, hlt, z⟩, fun ⟨_, _, _, _, z⟩ => z⟩
      have fe : (fun (b : Bool) (H5 : Hp) (σ4 : St) => if b = true then te σ4 H5 (fun y H6 => J (i + 1) (ys ++ [y]) H6) else J (i + 1) ys H5) = fun b H5 σ4 => if b = true then te σ4 H5 (fun y H6 => ∃ m', m' < ps.length - i ∧ m' = ps.length - (i + 1) ∧ i + 1 ≤ ps.length ∧ J (i + 1) (ys ++ [y]) H6) else ∃ m', m' < ps.length - i ∧ m' = ps.length - (i + 1) ∧ i + 1 ≤ ps.length ∧ J (i + 1) ys H5 := by
        funext b H5 σ4
        rw [← key ys H5]
        congr 2
        funext y H6
        exact key _ _
      have fe' : ∀ b H5 σ4, (if b = true then te σ4 H5 (fun y H6 => J (i + 1) (ys ++ [y]) H6) else J (i + 1) ys H5) = if b = true then te σ4 H5 (fun y H6 => ∃ m', m' < ps.length - i ∧ m' = ps.length - (i + 1) ∧ i + 1 ≤ ps.length ∧ J (i + 1) (ys ++ [y]) H6) else ∃ m', m' < ps.length - i ∧ m' = ps.length - (i + 1) ∧ i + 1 ≤ ps.length ∧ J (i + 1) ys H5 := fun b H5 σ4 => congrFun (congrFun (congrFun fe b) H5) σ4
      simp only [fe'] at h
      exact h
  · have e : i = ps.length := by omega
    subst e
    exact .inl ⟨⟨ps.map r, q2, by simp⟩, hd ys H2 jj⟩
section
variable {X : Cx}
end
end L2

namespace L2
open PySem PySem.Spec PySem.Calls PyProof.Rows
section
variable {X : Cx}
end
end L2

/-! ## sets: the making of one out of a list of keys, its length, and a walk over it -/
namespace L2
open PySem PySem.Spec PyProof.Rows
/-! ### places of a table rise -/
def Ris (xs : Array Nat) : Prop := ∀ i j, i < j → j < xs.size → xs.getD i 0 < xs.getD j 0
theorem getD_d {xs : Array Nat} {i : Nat} (h : i < xs.size) (a b : Nat) : xs.getD i a = xs.getD i b := by
  rw [Array.getD_eq_getD_getElem?, Array.getD_eq_getD_getElem?, Array.getElem?_eq_getElem h]; rfl
theorem below_go {xs : Array Nat} (hr : Ris xs) (j : Nat) : ∀ (f lo hi : Nat), hi ≤ xs.size → lo ≤ hi → hi - lo ≤ f → (∀ i, i < lo → xs.getD i 0 < j) → (∀ i, hi ≤ i → i < xs.size → j ≤ xs.getD i 0) →
    SetTable.below.go xs j f lo hi ≤ xs.size ∧ (∀ i, i < SetTable.below.go xs j f lo hi → xs.getD i 0 < j) ∧ ∀ i, SetTable.below.go xs j f lo hi ≤ i → i < xs.size → j ≤ xs.getD i 0
  | 0, lo, hi, h1, h2, h3, h4, h5 => by
    have e : lo = hi := by omega
    subst e
    exact ⟨h1, h4, h5⟩
  | f + 1, lo, hi, h1, h2, h3, h4, h5 => by
    unfold SetTable.below.go
    by_cases c : lo < hi
    · rw [if_pos c]
      have lm : (lo + hi) / 2 < xs.size := by omega
      dsimp only
      by_cases d : xs.getD ((lo + hi) / 2) j < j
      · rw [if_pos d]
        rw [getD_d lm j 0] at d
        refine below_go hr j f _ hi h1 (by omega) (by omega) (fun i hi' => ?_) h5
        by_cases e : i = (lo + hi) / 2
        · rw [e]; exact d
        · have := hr i ((lo + hi) / 2) (by omega) lm
          omega
      · rw [if_neg d]
        rw [getD_d lm j 0] at d
        refine below_go hr j f lo _ (by omega) (by omega) (by omega) h4 fun i hi' hs => ?_
        by_cases e : i = (lo + hi) / 2
        · rw [e]; omega
        · have := hr ((lo + hi) / 2) i (by omega) hs
          omega
    · rw [if_neg c]
      have e : lo = hi := by omega
      subst e
      exact ⟨h1, h4, h5⟩
theorem below_at {xs : Array Nat} (hr : Ris xs) (j : Nat) : SetTable.below xs j ≤ xs.size ∧ (∀ i, i < SetTable.below xs j → xs.getD i 0 < j) ∧ ∀ i, SetTable.below xs j ≤ i → i < xs.size → j ≤ xs.getD i 0 :=
  below_go hr j xs.size 0 xs.size (Nat.le_refl _) (Nat.zero_le _) (by omega) (fun i h => absurd h (Nat.not_lt_zero _)) fun i h1 h2 => absurd h2 (by omega)
theorem below_zero {xs : Array Nat} (hr : Ris xs) : SetTable.below xs 0 = 0 := by
  have h := below_at hr 0
  rcases Nat.eq_zero_or_pos (SetTable.below xs 0) with e | e
  · exact e
  · exact absurd (h.2.1 0 e) (Nat.not_lt_zero _)
theorem below_next {xs : Array Nat} (hr : Ris xs) {i : Nat} (hi : i < xs.size) : SetTable.below xs (xs.getD i 0 + 1) = i + 1 := by
  obtain ⟨h1, h2, h3⟩ := below_at hr (xs.getD i 0 + 1)
  rcases Nat.lt_trichotomy (SetTable.below xs (xs.getD i 0 + 1)) (i + 1) with c | c | c
  · have := h3 i (by omega) hi
    omega
  · exact c
  · have := h2 (i + 1) c
    have := hr i (i + 1) (Nat.lt_succ_self _) (by omega)
    omega
theorem ins_size {α : Type} (xs : Array α) (p : Nat) (x : α) (h : p ≤ xs.size) : (SetTable.insertAt xs p x).size = xs.size + 1 := by
  unfold SetTable.insertAt
  rw [Array.size_append, Array.size_push, Array.size_extract, Array.size_extract]
  omega
theorem insA_get (xs : Array Nat) (p : Nat) (x : Nat) (h : p ≤ xs.size) (i : Nat) : (SetTable.insertAt xs p x).getD i 0 = if i < p then xs.getD i 0 else if i = p then x else xs.getD (i - 1) 0 := by
  have e : (SetTable.insertAt xs p x).toList = xs.toList.take p ++ x :: xs.toList.drop p := by
    unfold SetTable.insertAt
    rw [Array.toList_append, Array.toList_push, Array.toList_extract, Array.toList_extract]
    simp only [List.extract_eq_drop_take, List.drop_zero, Nat.sub_zero, List.append_assoc, List.singleton_append]
    congr 2
    exact List.take_of_length_le (by rw [List.length_drop, Array.length_toList]; omega)
  have g : ∀ (ys : Array Nat) (i : Nat), ys.getD i 0 = ys.toList.getD i 0 := fun ys i => by rw [Array.getD_eq_getD_getElem?, List.getD_eq_getElem?_getD, Array.getElem?_toList]
  rw [g, e, g, g, List.getD_eq_getElem?_getD, List.getD_eq_getElem?_getD, List.getD_eq_getElem?_getD]
  have lt : (xs.toList.take p).length = p := by rw [List.length_take, Array.length_toList]; omega
  by_cases c : i < p
  · rw [if_pos c, List.getElem?_append_left (by omega), List.getElem?_take, if_pos c]
  · rw [if_neg c, List.getElem?_append_right (by omega), lt]
    by_cases d : i = p
    · rw [if_pos d, d, Nat.sub_self]; rfl
    · rw [if_neg d, show i - p = (i - 1 - p) + 1 by omega, List.getElem?_cons_succ, List.getElem?_drop]
      congr 2
      omega
theorem ins_ris {xs : Array Nat} (hr : Ris xs) {j : Nat} (hn : xs[SetTable.below xs j]? ≠ some j) : Ris (SetTable.insertAt xs (SetTable.below xs j) j) := by
  obtain ⟨h1, h2, h3⟩ := below_at hr j
  intro a b hab hb
  rw [ins_size _ _ _ h1] at hb
  rw [insA_get _ _ _ h1, insA_get _ _ _ h1]
  generalize hp : SetTable.below xs j = p at *
  have h4 : ∀ i, p ≤ i → i < xs.size → j < xs.getD i 0 := fun i hi hs => by
    have a1 := h3 i hi hs
    by_cases e : xs.getD i 0 = j
    · exfalso
      by_cases q : i = p
      · refine hn ?_
        rw [← q, Array.getElem?_eq_getElem hs]
        rw [Array.getD_eq_getD_getElem?, Array.getElem?_eq_getElem hs] at e
        exact congrArg some e
      · have := h3 p (Nat.le_refl _) (by omega)
        have := hr p i (by omega) hs
        omega
    · omega
  by_cases c1 : b < p
  · rw [if_pos c1, if_pos (by omega)]
    exact hr a b hab (by omega)
  · rw [if_neg c1]
    by_cases c2 : b = p
    · rw [if_pos c2, if_pos (by omega)]
      exact h2 a (by omega)
    · rw [if_neg c2]
      by_cases c3 : a < p
      · rw [if_pos c3]
        have := h2 a c3
        have := h4 (b - 1) (by omega) (by omega)
        omega
      · rw [if_neg c3]
        by_cases c4 : a = p
        · rw [if_pos c4]
          exact h4 (b - 1) (by omega) (by omega)
        · rw [if_neg c4]
          exact hr (a - 1) (b - 1) (by omega) (by omega)
theorem range_ris (n : Nat) : Ris (Array.range n) := fun i j hij hj => by
  rw [Array.size_range] at hj
  rw [Array.getD_eq_getD_getElem?, Array.getD_eq_getD_getElem?, Array.getElem?_eq_getElem (by rw [Array.size_range]; omega), Array.getElem?_eq_getElem (by rw [Array.size_range]; omega), Array.getElem_range, Array.getElem_range]
  exact hij
theorem ris_of {xs : List Nat} (h : xs.Pairwise (· < ·)) : Ris xs.toArray := fun i j hij hj => by
  rw [List.size_toArray] at hj
  rw [Array.getD_eq_getD_getElem?, Array.getD_eq_getD_getElem?, List.getElem?_toArray, List.getElem?_toArray, List.getElem?_eq_getElem hj, List.getElem?_eq_getElem (by omega)]
  exact List.pairwise_iff_getElem.mp h i j (by omega) hj hij
theorem free_not {t : SetTable} {ha : Nat → Int} {h : Int} : ∀ (f : Nat) (p : SetTable.Probe) {j : Nat} {d : Option Nat}, (∀ x, p.dummy = some x → t.place[SetTable.below t.place x]? ≠ some x) → SetTable.probe.go t ha h f p = some (.empty j d) → t.place[SetTable.below t.place j]? ≠ some j ∧ ∀ x, d = some x → t.place[SetTable.below t.place x]? ≠ some x
  | 0, p, j, d, _, e => by cases e
  | f + 1, p, j, d, hd, e => by
    unfold SetTable.probe.go at e
    have adv : ∀ q : SetTable.Probe, (t.advance q).dummy = q.dummy := fun q => by
      unfold SetTable.advance
      split <;> rfl
    have sl : t.slot p.j ≠ .live (SetTable.below t.place p.j) → t.place[SetTable.below t.place p.j]? ≠ some p.j := fun hn z => hn (by
      unfold SetTable.slot
      dsimp only
      rw [if_pos (by rw [z]; simp)])
    split at e
    · rename_i q
      cases e
      exact ⟨sl (by rw [q]; exact fun z => by cases z), hd⟩
    · rename_i q
      refine free_not f _ (fun x hx => ?_) e
      rw [adv] at hx
      cases hx
      exact sl (by rw [q]; exact fun z => by cases z)
    · split at e
      · cases e
      · refine free_not f _ (fun x hx => ?_) e
        rw [adv] at hx
        exact hd x hx
theorem slot_not {t : SetTable} {h : Int} {slot : Nat} {wd : Bool} (e : t.freeSlot h = some (slot, wd)) : t.place[SetTable.below t.place slot]? ≠ some slot := by
  unfold SetTable.freeSlot at e
  split at e
  · rename_i j d q
    obtain ⟨h1, h2⟩ := free_not _ _ (fun x hx => by cases hx) q
    cases d with
    | none => cases e; exact h1
    | some x => cases e; exact h2 x rfl
  · cases e
theorem or_ris {t : SetTable} (hr : Ris t.place) (n : Nat) : Ris (t.orStandIn n).place ∧ (t.orStandIn n).led = t.led := by
  unfold SetTable.orStandIn
  split
  · exact ⟨hr, rfl⟩
  · exact ⟨range_ris _, rfl⟩
theorem lay_ris {t : SetTable} (hr : Ris t.place) (es : Array (Int × Value)) (h : Int) (x : Value) : Ris (layNew t es h x).2.1.place ∧ (layNew t es h x).2.1.led = t.led := by
  unfold layNew
  split
  · rename_i slot wd q
    have hn := slot_not q
    exact or_ris (t := (t.put slot).1) (ins_ris hr hn) _
  · exact ⟨range_ris _, rfl⟩
theorem relay_ris (t : SetTable) (es : Array (Int × Value)) (n : Nat) : Ris (relayAll t es n).2.1.place ∧ (relayAll t es n).2.1.led = t.led := by
  unfold relayAll
  split
  · rename_i t' order q
    dsimp only
    split
    · unfold SetTable.relaid SetTable.laid at q
      simp only [Option.bind_eq_bind, Option.pure_def, Option.bind_eq_some_iff, Option.some.injEq, Prod.mk.injEq] at q
      obtain ⟨ow, _, rfl, _⟩ := q
      refine ⟨ris_of ?_, rfl⟩
      refine List.pairwise_map.mpr (List.pairwise_filterMap.mpr (List.pairwise_lt_range.imp fun {a b} hab x hx y hy => ?_))
      obtain ⟨u, _, rfl⟩ := Option.map_eq_some_iff.mp hx
      obtain ⟨v, _, rfl⟩ := Option.map_eq_some_iff.mp hy
      exact hab
    · exact ⟨range_ris _, rfl⟩
  · exact ⟨range_ris _, rfl⟩
/-! ### a set and its keys, in the order of its entries -/
theorem paired_perm {α β : Type} {F : α → β → Prop} {l l' : List β} (p : l'.Perm l) : ∀ {k : List α}, Paired F k l → ∃ k', Paired F k' l' ∧ k'.Perm k := by
  induction p with
  | nil => intro k h; exact ⟨k, h, List.Perm.refl _⟩
  | cons x _ ih =>
    intro k h
    cases h with
    | cons h1 h2 =>
      obtain ⟨k', a, b⟩ := ih h2
      exact ⟨_, .cons h1 a, b.cons _⟩
  | swap x y l =>
    intro k h
    cases h with
    | cons h1 h2 =>
      cases h2 with
      | cons h3 h4 => exact ⟨_, .cons h3 (.cons h1 h4), List.Perm.swap _ _ _⟩
  | trans _ _ i1 i2 =>
    intro k h
    obtain ⟨k1, a1, b1⟩ := i2 h
    obtain ⟨k2, a2, b2⟩ := i1 a1
    exact ⟨k2, a2, b2.trans b1⟩
theorem paired_snoc {α β : Type} {F : α → β → Prop} : ∀ {k : List α} {l : List β} {x : α} {y : β}, Paired F k l → F x y → Paired F (k ++ [x]) (l ++ [y])
  | _, _, _, _, .nil, h => .cons h .nil
  | _, _, _, _, .cons a b, h => .cons a (paired_snoc b h)
section
variable {prog : Program} {w : World} {A : Around} {E : Value → Shared → Prop} {s : Shared} {κ : Type} [DecidableEq κ] [BEq κ] [LawfulBEq κ] {knd : KeyKind prog w κ}
/-- the object of a set whose entries have the keys ks, in this order -/
def SetS (knd : KeyKind prog w κ) (led : Bool) (ks : List κ) (o : Obj) : Prop :=
  o.ExactSet ∧ ks.Nodup ∧ ∃ es ep t, o.data = .set es ep t ∧ ElemsOf knd es.toList ∧ Paired (fun k (e : Int × Value) => knd.is k e.2 = true) ks es.toList ∧ es.size < scanBound ∧ t.fits es.size = true ∧ Ris t.place ∧ t.led = led
theorem setS_new (led : Bool) : SetS knd led [] { cls := .type "set", dict := none, data := .set #[] 0 (.fresh 0 0 led) } :=
  ⟨⟨rfl, rfl, rfl⟩, List.nodup_nil, #[], 0, _, rfl, fun e he => by simp at he, .nil, by unfold scanBound; decide, by rfl, fun i j _ h => absurd h (Nat.not_lt_zero _), rfl⟩
theorem setS_put {led : Bool} {a : Addr} {o : Obj} {es es' : Array (Int × Value)} {ep : Nat} {t t' : SetTable} {ks' : List κ} {h : Heap} (ho : h.get? a = some o) (hex : o.ExactSet) (hd : o.data = .set es ep t) (nd : ks'.Nodup) (hel : ElemsOf knd es'.toList) (hp : Paired (fun k (e : Int × Value) => knd.is k e.2 = true) ks' es'.toList) (hb : es'.size < scanBound) (hf : t'.fits es'.size = true) (hr : Ris t'.place) (hl : t'.led = led) :
    (h.update a (Obj.putSet es' t')).get? a = some { o with data := .set es' (ep + 1) t' } ∧ SetS knd led ks' { o with data := .set es' (ep + 1) t' } := by
  refine ⟨?_, hex, nd, es', ep + 1, t', rfl, hel, hp, hb, hf, hr, hl⟩
  have := Heap.get?_update_self (Obj.putSet es' t') ho (by rw [putSet_of es' t' hd]; rfl)
  rwa [putSet_of es' t' hd] at this
theorem setS_add {led : Bool} {a : Addr} {o : Obj} {ks : List κ} {k : κ} {x : Value} {Q : Bool → Shared → Prop} (hkey : knd.is k x = true) (hsc : x.scannable = true) (ho : s.heap.get? a = some o) (hS : SetS knd led ks o) (hroom : ks.length + 1 < scanBound)
    (h : ∀ (b : Bool) (h' : Heap) (o' : Obj) (ks' : List κ), Heap.SameBut a s.heap h' → h'.get? a = some o' → SetS knd led ks' o' → (∀ z, z ∈ ks' ↔ z ∈ ks ∨ z = k) → ks'.length ≤ ks.length + 1 → Q b { s with heap := h' }) :
    wpAny (model prog w) A (setAddHashed a x (knd.hash k)) Q E s := by
  obtain ⟨hex, nd, es, ep, t, hd, hel, hp, hb, hf, hr, hl⟩ := id hS
  have hlen : ks.length = es.toList.length := paired_len hp
  unfold setAddHashed setAddHashedIn
  refine wpAny_holding (wpAny_bind (wpAny_setState_of ho hd hf ?_))
  dsimp only
  rw [byScan_of hsc hb hel, if_pos rfl]
  unfold setAddByScan
  refine wpAny_bind (wpAny_bind (wpAny_rule ?_))
  refine wpAny_bind (wpAny_setScan_of hkey ho hd hf hel ?_)
  cases hq : List.findIdx? (fun e => knd.is k e.2) es.toList with
  | some j =>
    dsimp only
    obtain ⟨hj, hpj, _⟩ := List.findIdx?_eq_some_iff_getElem.mp hq
    have mk : k ∈ ks := by
      have hj' : j < ks.length := by omega
      obtain ⟨b, e1, e2⟩ := paired_get hp (List.getElem?_eq_getElem hj')
      rw [List.getElem?_eq_getElem hj] at e1
      cases e1
      rw [knd.inj _ _ _ hpj e2]
      exact List.getElem_mem hj'
    refine wpAny_pure (wpAny_pure ?_)
    exact h false s.heap o ks (Heap.SameBut.refl a s.heap) ho hS (fun z => ⟨.inl, fun q => q.elim id fun e => e ▸ mk⟩) (Nat.le_succ _)
  | none =>
    dsimp only
    have nk : k ∉ ks := fun m => by
      obtain ⟨j, hj, e⟩ := List.mem_iff_getElem.mp m
      obtain ⟨b, e1, e2⟩ := paired_get hp (List.getElem?_eq_getElem hj)
      have := List.findIdx?_eq_none_iff.mp hq b (List.mem_of_getElem? e1)
      rw [← e, e2] at this
      exact Bool.noConfusion this
    have gw : ∀ (b : Bool) {s₁ : Shared} {Q' : Unit → Shared → Prop}, Q' () s₁ → wpAny (model prog w) A (match b with | true => rule "set.scan.the-table-gave-way" | false => pure ()) Q' E s₁ := fun b s₁ Q' q => by
      cases b
      · exact wpAny_pure q
      · exact wpAny_rule q
    have pm := layNew_perm t es (knd.hash k) x
    have ft := layNew_fits t es (knd.hash k) x
    have rs := lay_ris hr es (knd.hash k) x
    generalize layNew t es (knd.hash k) x = L at pm ft rs ⊢
    obtain ⟨es1, t1, wd, gave⟩ := L
    dsimp only at pm ft rs ⊢
    rw [Array.toList_push] at pm
    obtain ⟨k1, p1, q1⟩ := paired_perm pm (paired_snoc hp hkey)
    have el1 : ElemsOf knd es1.toList := (hel.push hkey hsc).perm pm
    have nd1 : k1.Nodup := q1.nodup_iff.mpr (List.nodup_append.mpr ⟨nd, List.nodup_cons.mpr ⟨List.not_mem_nil, List.nodup_nil⟩, fun u hu v hv e => by rw [List.mem_singleton.mp hv] at e; exact nk (e ▸ hu)⟩)
    have m1 : ∀ z, z ∈ k1 ↔ z ∈ ks ∨ z = k := fun z => by rw [q1.mem_iff, List.mem_append, List.mem_singleton]
    have l1 : k1.length = ks.length + 1 := by rw [q1.length_eq, List.length_append]; rfl
    have b1 : es1.size < scanBound := by
      have e : es1.size = k1.length := by rw [← Array.length_toList]; exact (paired_len p1).symm
      omega
    refine wpAny_bind (gw _ ?_)
    split
    · refine wpAny_bind ?_
      rw [hashByValue_scannable 8 hsc]
      refine wpAny_pure ?_
      obtain ⟨t2, e2, f2, r2, w2⟩ : ∃ t2 : SetTable, (if plainKind x = true then t1 else { t1 with plain := false }) = t2 ∧ t2.fits es1.size = true ∧ Ris t2.place ∧ t2.led = led := by
        cases plainKind x
        · exact ⟨_, rfl, SetTable.fits_plain_off ft, rs.1, rs.2.trans hl⟩
        · exact ⟨_, rfl, ft, rs.1, rs.2.trans hl⟩
      rw [e2]
      refine wpAny_bind (wpAny_storeSet_of ho hd ?_ (fits_of_scanBound b1))
      obtain ⟨o1, S1⟩ := setS_put (knd := knd) ho hex hd nd1 el1 p1 b1 f2 r2 w2
      have sb1 := Heap.SameBut.update s.heap a (Obj.putSet es1 t2)
      split
      · have pm3 := relayAll_perm t2 es1 (SetTable.grown es1.size)
        have ft3 := relayAll_fits t2 es1 (SetTable.grown es1.size)
        have rs3 := relay_ris t2 es1 (SetTable.grown es1.size)
        generalize relayAll t2 es1 (SetTable.grown es1.size) = L at pm3 ft3 rs3 ⊢
        obtain ⟨es3, t3, gave3⟩ := L
        dsimp only at pm3 ft3 rs3 ⊢
        obtain ⟨k3, p3, q3⟩ := paired_perm pm3 p1
        have b3 : es3.size < scanBound := by
          have e : es3.size = k3.length := by rw [← Array.length_toList]; exact (paired_len p3).symm
          rw [e, q3.length_eq]
          omega
        refine wpAny_bind (gw _ ?_)
        refine wpAny_bind (wpAny_storeSet_of o1 rfl ?_ (fits_of_scanBound b3))
        obtain ⟨o3, S3⟩ := setS_put (knd := knd) (t' := t3) o1 hex rfl (q3.nodup_iff.mpr nd1) (el1.perm pm3) p3 b3 ft3 rs3.1 (rs3.2.trans w2)
        refine wpAny_pure (wpAny_pure ?_)
        exact h true _ _ k3 (sb1.trans (Heap.SameBut.update _ a _)) o3 S3 (fun z => q3.mem_iff.trans (m1 z)) (by rw [q3.length_eq]; omega)
      · refine wpAny_pure (wpAny_pure ?_)
        exact h true _ _ k1 sb1 o1 S1 m1 (by omega)
    · refine wpAny_bind (wpAny_pure ?_)
      obtain ⟨t2, e2, f2, r2, w2⟩ : ∃ t2 : SetTable, (if true = true then t1 else { t1 with plain := false }) = t2 ∧ t2.fits es1.size = true ∧ Ris t2.place ∧ t2.led = led := by
        exact ⟨_, rfl, ft, rs.1, rs.2.trans hl⟩
      rw [e2]
      refine wpAny_bind (wpAny_storeSet_of ho hd ?_ (fits_of_scanBound b1))
      obtain ⟨o1, S1⟩ := setS_put (knd := knd) ho hex hd nd1 el1 p1 b1 f2 r2 w2
      have sb1 := Heap.SameBut.update s.heap a (Obj.putSet es1 t2)
      split
      · have pm3 := relayAll_perm t2 es1 (SetTable.grown es1.size)
        have ft3 := relayAll_fits t2 es1 (SetTable.grown es1.size)
        have rs3 := relay_ris t2 es1 (SetTable.grown es1.size)
        generalize relayAll t2 es1 (SetTable.grown es1.size) = L at pm3 ft3 rs3 ⊢
        obtain ⟨es3, t3, gave3⟩ := L
        dsimp only at pm3 ft3 rs3 ⊢
        obtain ⟨k3, p3, q3⟩ := paired_perm pm3 p1
        have b3 : es3.size < scanBound := by
          have e : es3.size = k3.length := by rw [← Array.length_toList]; exact (paired_len p3).symm
          rw [e, q3.length_eq]
          omega
        refine wpAny_bind (gw _ ?_)
        refine wpAny_bind (wpAny_storeSet_of o1 rfl ?_ (fits_of_scanBound b3))
        obtain ⟨o3, S3⟩ := setS_put (knd := knd) (t' := t3) o1 hex rfl (q3.nodup_iff.mpr nd1) (el1.perm pm3) p3 b3 ft3 rs3.1 (rs3.2.trans w2)
        refine wpAny_pure (wpAny_pure ?_)
        exact h true _ _ k3 (sb1.trans (Heap.SameBut.update _ a _)) o3 S3 (fun z => q3.mem_iff.trans (m1 z)) (by rw [q3.length_eq]; omega)
      · refine wpAny_pure (wpAny_pure ?_)
        exact h true _ _ k1 sb1 o1 S1 m1 (by omega)
end
section
variable {prog : Program} {w : World} {A : Around} {E : Value → Shared → Prop} {s : Shared} {κ : Type} [DecidableEq κ] [BEq κ] [LawfulBEq κ] {knd : PySem.KeyKind prog w κ} {R : Result → Shared → Prop}
theorem set_loop {led : Bool} {S I l : Addr} {items : Array Value} (hh : A.handled = none) (hne : l ≠ I) (hSI : S ≠ I) (hSl : S ≠ l) (keys : Nat → κ) (hk : ∀ i v, items[i]? = some v → knd.is (keys i) v = true ∧ v.scannable = true) (hb : items.size + 1 < scanBound) :
    ∀ (n i : Nat) (s : Shared) (o : Obj) (ks : List κ), items.size = i + n → s.heap.IsListIter I l i ∧ s.heap.IsList l items → s.heap.get? S = some o → SetS knd led ks o → (∀ z, z ∈ ks ↔ ∃ j, j < i ∧ keys j = z) → ks.length ≤ i →
    (∀ (h' : Heap) (tk : Nat) (o' : Obj) (ks' : List κ), (∀ b ob, b ≠ I → b ≠ S → s.heap.get? b = some ob → h'.get? b = some ob) → h'.get? S = some o' → SetS knd led ks' o' → (∀ z, z ∈ ks' ↔ ∃ j, j < items.size ∧ keys j = z) → ks'.length ≤ items.size → R (.ok (.ret .none)) { s with heap := h', toks := tk }) →
    codeAny (model prog w) A (.builtin "set.update.loop" ⟨[.ref S, .ref I], []⟩) R s := by
  have W := Walks.list (prog := prog) (w := w) (A := A.in1) hh I l hne items
  intro n
  induction n with
  | zero =>
    intro i s o ks e st hS hK hm hl hR
    have ei : items.size = i := by omega
    refine codeAny_builtin PyProof.Rows.F.entry_set_update_loop ?_
    rw [Around.under_plainId PyProof.Rows.F.plain_set_update_loop _]
    show wpAny _ A.in1 (pyNext (.ref I) >>= _) _ _ s
    refine wpAny_bind (W.done s _ _ (by rw [ei]; exact st) fun h' tk hk' => ?_)
    refine wpAny_pure (hR h' tk o ks (fun b ob n1 _ q => hk' b ob (by simpa using n1) q) (hk' S o (by simpa using hSI) hS) hK (by rw [ei]; exact hm) (by omega))
  | succ n ih =>
    intro i s o ks e st hS hK hm hl hR
    refine codeAny_builtin PyProof.Rows.F.entry_set_update_loop ?_
    rw [Around.under_plainId PyProof.Rows.F.plain_set_update_loop _]
    show wpAny _ A.in1 (pyNext (.ref I) >>= _) _ _ s
    refine wpAny_bind (W.item i s _ _ (by omega) st fun v h1 tk hv st1 k1 => ?_)
    obtain ⟨hkey, hsc⟩ := hk i v hv
    have hS1 := k1 S o (by simpa using hSI) hS
    show wpAny _ A.in1 (holding [v] (setAdd S v) >>= _) _ _ _
    refine wpAny_bind (wpAny_holding ?_)
    unfold setAdd
    refine wpAny_holding (wpAny_bind (knd.pyHash (k := keys i) hkey ?_))
    refine setS_add hkey hsc hS1 hK (by omega) fun b h2 o2 ks2 sb g2 S2 m2 l2 => ?_
    have up : ∀ b ob, b ≠ S → h1.get? b = some ob → h2.get? b = some ob := fun b ob nb q => (sb.2 b nb).trans q
    refine wpAny_pure ⟨plainId_quiet PyProof.Rows.F.plain_set_update_loop _, ih (i + 1) _ o2 ks2 (by omega) (W.frame _ _ _ st1 fun b hb' ob q => up b ob (fun z => ?_) q) g2 S2 (fun z => ?_) (by omega) fun h3 tk3 o3 ks3 k3 g3 S3 m3 l3 => ?_⟩
    · rcases List.mem_cons.mp hb' with q' | q'
      · exact hSI (z.symm.trans q')
      · exact hSl (z.symm.trans (List.mem_singleton.mp q'))
    · rw [m2, hm]
      constructor
      · rintro (⟨j, hj, q⟩ | rfl)
        · exact ⟨j, by omega, q⟩
        · exact ⟨i, Nat.lt_succ_self _, rfl⟩
      · rintro ⟨j, hj, q⟩
        by_cases c : j = i
        · exact .inr (by rw [← q, c])
        · exact .inl ⟨j, by omega, q⟩
    · exact hR h3 tk3 o3 ks3 (fun b ob n1 n2 q => k3 b ob n1 n2 (up b ob n2 (k1 b ob (by simpa using n1) q))) g3 S3 m3 l3
/-- whether sets are walked as told -/
def ledW (w : World) : Bool := !w.params.followText "set-order"
theorem set_new1 (a : Value) {Q₁ : Value → Shared → Prop} (h : Q₁ (.ref s.heap.objs.size) { s with heap := s.heap.push { cls := .type "set", dict := none, data := .set #[] 0 (.fresh 0 0 (ledW w)) } }) :
    codeAny (model prog w) A (.call (.builtin "set.__new__") ⟨[.type "set", a], []⟩) (wants Q₁ E) s := by
  refine codeAny_of_tree ?_
  show wpAny _ A.in1 (checkBuiltinCall "set.__new__" ⟨[.type "set", a], []⟩ >>= fun _ => again (.builtin "set.__new__" ⟨[.type "set", a], []⟩)) _ _ s
  refine wpAny_bind (wpAny_of_eq (PySem.F.newCall_set_1 a) (wpAny_pure ⟨plainId_quiet PySem.F.plain_set_new _, codeAny_builtin PySem.F.entry_set_new ?_⟩))
  rw [Around.under_plainId PySem.F.plain_set_new _]
  unfold Builtin.«set.__new__» Builtin.Frozenset.newClass
  have su := sub_set_self
  obtain ⟨hp, g, d, tk, os⟩ := s
  dsimp only
  wp_walk
  refine wpAny_askSetting (wpAny_pure ?_)
  dsimp only
  simp only [newObj]
  exact wpAny_bind (wpAny_alloc (wpAny_pure (wpAny_pure h)))
end
section
variable {prog : Program} {w : World} {A : Around} {E : Value → Shared → Prop} {s : Shared} {κ : Type} [DecidableEq κ] [BEq κ] [LawfulBEq κ] {knd : PySem.KeyKind prog w κ}
/-- the fresh set -/
abbrev newSetO (w : World) : Obj := { cls := .type "set", dict := none, data := .set #[] 0 (.fresh 0 0 (ledW w)) }
theorem set_init1 {l : Addr} {items : Array Value} {Q : Value → Shared → Prop} (hh : A.handled = none) (hl : s.heap.IsList l items) (keys : Nat → κ) (hk : ∀ i v, items[i]? = some v → knd.is (keys i) v = true ∧ v.scannable = true) (hb : items.size + 1 < scanBound)
    (h : ∀ (h' : Heap) (tk : Nat) (o' : Obj) (ks : List κ), (∀ b ob, b < s.heap.objs.size → s.heap.get? b = some ob → h'.get? b = some ob) → h'.get? s.heap.objs.size = some o' → SetS knd (ledW w) ks o' → (∀ z, z ∈ ks ↔ ∃ j, j < items.size ∧ keys j = z) → ks.length ≤ items.size → Q .none { s with heap := h', toks := tk }) :
    codeAny (model prog w) A (.call (.builtin "set.__init__") ⟨[.ref s.heap.objs.size, .ref l], []⟩) (wants Q E) { s with heap := s.heap.push (newSetO w) } := by
  have hS : (s.heap.push (newSetO w)).get? s.heap.objs.size = some (newSetO w) := Heap.get?_push_size _ rfl
  have hT : Shared.TypeIs { s with heap := s.heap.push (newSetO w) } (.ref s.heap.objs.size) "set" := ⟨_, hS, rfl⟩
  refine codeAny_call_builtin PySem.F.called_set.init.plain PySem.F.entry_set_init (check_set_init_1 hT ?_)
  obtain ⟨⟨oc, od, odt, osl⟩, ho, hc, nl, hd⟩ := id hl
  simp only at hc hd
  subst hc hd
  have ho' : (s.heap.push (newSetO w)).get? l = some { cls := .type "list", dict := od, data := .seq items nl, slots := osl } := Heap.get?_push_of_some _ ho
  have s1 := PySem.F.sub_list_set
  have s2 := PySem.F.sub_list_frozenset
  have ne1 : (Value.type "list" == Value.type "dict") = false := by decide
  have hl1 : (s.heap.push (newSetO w)).IsList l items := ⟨_, ho', rfl, nl, rfl⟩
  have llt : l < s.heap.objs.size := Heap.lt_size ho
  unfold Builtin.«set.__init__» noKeywords Builtin.Frozenset.updateFrom
  generalize hPI : pyIter = PI
  wp_walk
  subst hPI
  refine wpAny_pyIter_list hl1 (wpAny_bind (wpAny_runValue ?_))
  have e1 : (s.heap.push (newSetO w)).objs.size = s.heap.objs.size + 1 := Heap.size_push ..
  refine set_loop (knd := knd) (led := ledW w) (S := s.heap.objs.size) (I := (s.heap.push (newSetO w)).objs.size) (l := l) (items := items) (by simp [hh]) (by rw [e1]; exact Nat.ne_of_lt (Nat.lt_succ_of_lt llt)) (by rw [e1]; exact Nat.ne_of_lt (Nat.lt_succ_self _)) (Nat.ne_of_gt llt) keys hk hb items.size 0 _ (newSetO w) [] (by omega) ⟨⟨_, Heap.get?_push_size _ rfl, rfl, rfl⟩, hl1.push _⟩ (Heap.get?_push_of_some _ hS) (setS_new _) (fun z => ⟨fun q => (by cases q), fun ⟨j, hj, _⟩ => absurd hj (Nat.not_lt_zero _)⟩) (Nat.le_refl _) fun h' tk o' ks k1 g1 S1 m1 l1 => ?_
  refine wpAny_pure (wpAny_pure ?_)
  exact h h' tk o' ks (fun b ob hb' q => k1 b ob (by rw [e1]; exact Nat.ne_of_lt (Nat.lt_succ_of_lt hb')) (Nat.ne_of_lt hb') (Heap.get?_push_of_some _ (Heap.get?_push_of_some _ q))) g1 S1 m1 l1
theorem call_setS {l : Addr} {items : Array Value} {Q : Value → Shared → Prop} (hh : A.handled = none) (hl : s.heap.IsList l items) (keys : Nat → κ) (hk : ∀ i v, items[i]? = some v → knd.is (keys i) v = true ∧ v.scannable = true) (hb : items.size + 1 < scanBound)
    (h : ∀ (h' : Heap) (tk : Nat) (o' : Obj) (ks : List κ), (∀ b ob, b < s.heap.objs.size → s.heap.get? b = some ob → h'.get? b = some ob) → h'.get? s.heap.objs.size = some o' → SetS knd (ledW w) ks o' → (∀ z, z ∈ ks ↔ ∃ j, j < items.size ∧ keys j = z) → ks.length ≤ items.size → Q (.ref s.heap.objs.size) { s with heap := h', toks := tk }) :
    wpAny (model prog w) A (call (.type "set") [.ref l]) Q E s := by
  obtain ⟨c, tl, hmro⟩ := PySem.F.called_set.mro
  have a1 := PySem.F.called_set.made
  have a2 := PySem.F.called_set.sub
  have a3 := PySem.F.called_set.notType
  have a4 := PySem.F.called_set.canCreate
  have a5 := PySem.F.typeCall_set_1 (.ref l)
  refine wpAny_call (codeAny_of_tree ?_)
  show wpAny _ _ (callAny (.type "set") _) _ _ _
  refine wpAny_pure ⟨Code.quiet_builtin _ (by decide +kernel), codeAny_builtin PySem.F.entry_type_call ?_⟩
  rw [Around.under_plain (weight_type_call_type "set" [.ref l] []) rfl]
  repeat (any_goals (first | assumption | wp_step))
  refine codeAny_mono (set_new1 (.ref l) (E := E) (Q₁ := fun ob s₁ => ob = .ref s.heap.objs.size ∧ s₁ = { s with heap := s.heap.push (newSetO w) }) ⟨rfl, rfl⟩) fun r s₁ hr => ?_
  cases r with
  | error e => exact hr
  | ok fl =>
    cases fl with
    | ret ob =>
      obtain ⟨rfl, rfl⟩ := hr
      have hT : Shared.TypeIs { s with heap := s.heap.push (newSetO w) } (.ref s.heap.objs.size) "set" := ⟨_, Heap.get?_push_size _ rfl, rfl⟩
      have b1 := PySem.F.called_set.init.lookup
      have b2 := PySem.F.called_set.init.bind (.ref s.heap.objs.size)
      repeat (any_goals (first | assumption | wp_step))
      refine codeAny_mono (set_init1 (knd := knd) (E := E) (Q := fun r s₂ => r = .none ∧ Q (.ref s.heap.objs.size) s₂) (by simp [hh]) hl keys hk hb fun h' tk o' ks k1 g1 S1 m1 l1 => ⟨rfl, h h' tk o' ks k1 g1 S1 m1 l1⟩) fun r₂ s₂ hr₂ => ?_
      cases r₂ with
      | error e => exact hr₂
      | ok fl₂ =>
        cases fl₂ with
        | ret r =>
          obtain ⟨rfl, q⟩ := hr₂
          repeat (any_goals (first | assumption | wp_step))
        | _ => exact hr₂.elim
    | _ => exact hr.elim
end
/-! ### len(set(e)) of texts -/
section
variable {X : Cx} {e : Expr} {te : TE} {p p2 pos pos2 : Pos}
end
/-! ### list(d.items()) of numbers -/
section
variable {X : Cx} {o : Expr} {to : TE} {p apos cpos pos : Pos}
end
end L2

/-! ## a walk over a set that stays as it is, in its three ways; sorted(set) of numbers -/
namespace L2
open PySem PySem.Spec PyProof.Rows
theorem slot_sit_next : Slot "set_iterator" "__next__" "set_iterator.__next__" :=
  .of (owner := "set_iterator") (n := "__next__") (by rw [typeLookup_type, builtinLookup_eq_fast]; kernel_rfl) (by decide +kernel) (by decide +kernel) (by decide +kernel)
    (by first | exact .inl (by decide +kernel) | exact .inr (by decide +kernel)) (by rw [isSubtype_type]; kernel_rfl)
theorem entry_sit_next : entryFor table "set_iterator.__next__" = some Builtin.«set_iterator.__next__» := entryFor_of_tree (by kernel_rfl)
theorem owner_sit : Manifest.owners.lookup (String.ofList ['r', 'o', 't', 'a', 'r', 'e', 't', 'i', '_', 't', 'e', 's'].reverse) = some Manifest.sig_set_iterator := by kernel_rfl
theorem args_sit_next (a : Value) : argsOk "set_iterator.__next__" ⟨[a], []⟩ := by
  unfold argsOk; rw [signature?_of (id := "set_iterator.__next__") (n := ['_', '_', 't', 'x', 'e', 'n', '_', '_']) (o := ['r', 'o', 't', 'a', 'r', 'e', 't', 'i', '_', 't', 'e', 's']) (by kernel_rfl) owner_sit]; kernel_rfl
theorem slot_sit_iter : Slot "set_iterator" "__iter__" "set_iterator.__iter__" :=
  .of (owner := "set_iterator") (n := "__iter__") (by rw [typeLookup_type, builtinLookup_eq_fast]; kernel_rfl) (by decide +kernel) (by decide +kernel) (by decide +kernel)
    (by first | exact .inl (by decide +kernel) | exact .inr (by decide +kernel)) (by rw [isSubtype_type]; kernel_rfl)
theorem args_sit_iter (a : Value) : argsOk "set_iterator.__iter__" ⟨[a], []⟩ := by
  unfold argsOk; rw [signature?_of (id := "set_iterator.__iter__") (n := ['_', '_', 'r', 'e', 't', 'i', '_', '_']) (o := ['r', 'o', 't', 'a', 'r', 'e', 't', 'i', '_', 't', 'e', 's']) (by kernel_rfl) owner_sit]; kernel_rfl
theorem entry_sit_iter : entryFor table "set_iterator.__iter__" = some Builtin.«dict_keyiterator.__iter__» :=
  entryFor_alias (id' := "dict_keyiterator.__iter__") (by kernel_rfl) rfl (by decide +kernel) (by kernel_rfl)
theorem entry_set_iterS : entryFor table "set.__iter__" = some Builtin.«frozenset.__iter__» :=
  entryFor_alias (id' := "frozenset.__iter__") (by kernel_rfl) rfl (by decide +kernel) (by kernel_rfl)
/-! ### the orders of a walk -/
theorem erase_perm {α : Type} : ∀ (l : List α) (i : Nat) (h : i < l.length), (l[i] :: l.eraseIdx i).Perm l
  | x :: l, 0, _ => List.Perm.refl _
  | x :: l, i + 1, h => (List.Perm.swap x _ _).trans ((erase_perm l i (by simpa using h)).cons x)
theorem pick_perm {α : Type} (next : Nat → Nat) : ∀ (f k : Nat) (l : List α) (out : Array α), l.length = f → (pickOrder.go next f k l out).toList.Perm (out.toList ++ l)
  | 0, k, l, out, h => by
    rw [List.length_eq_zero_iff.mp h, List.append_nil]
    exact List.Perm.refl _
  | f + 1, k, l, out, h => by
    unfold pickOrder.go
    have lt : next k % l.length < l.length := Nat.mod_lt _ (by omega)
    rw [List.getElem?_eq_getElem lt]
    dsimp only
    refine (pick_perm next f (k + 1) _ _ (by rw [List.length_eraseIdx_of_lt lt]; omega)).trans ?_
    rw [Array.toList_push, List.append_assoc]
    exact List.Perm.append_left _ (erase_perm _ _ lt)
theorem pickOrder_perm {α : Type} (next : Nat → Nat) (xs : Array α) : (pickOrder next xs).toList.Perm xs.toList := by
  have := pick_perm next xs.size 0 xs.toList #[] (Array.length_toList)
  simpa [pickOrder] using this
section
variable {prog : Program} {w : World} {A : Around} {E : Value → Shared → Prop}
theorem wpAny_choose {src : Source} {n : Nat} {Q : Nat → Shared → Prop} {s : Shared} (hn : n ≠ 0) (h : ∀ i dr, i < n → Q i { s with drawn := dr }) : wpAny (model prog w) A (choose src n) Q E s := fun Γ p _ => by
  unfold choose
  rw [Sem.wp_choose]
  exact ⟨hn, h _ _ (Nat.mod_lt _ (Nat.pos_of_ne_zero hn))⟩
theorem draw_wp {α : Type} : ∀ (n : Nat) (xs : List α) (s : Shared) (Q : List α → Shared → Prop), xs.length = n → (∀ ys dr, ys.Perm xs → Q ys { s with drawn := dr }) → wpAny (model prog w) A (drawOrder n xs) Q E s
  | 0, xs, s, Q, h, q => by
    rw [List.length_eq_zero_iff.mp h] at q ⊢
    unfold drawOrder
    exact wpAny_pure (q [] s.drawn (List.Perm.refl _))
  | n + 1, [], s, Q, h, q => by cases h
  | n + 1, x :: xs, s, Q, h, q => by
    unfold drawOrder
    refine wpAny_bind (wpAny_choose (by simp) fun i dr hi => ?_)
    rw [List.getElem?_eq_getElem hi]
    dsimp only
    refine wpAny_bind (draw_wp n _ _ _ (by rw [List.length_eraseIdx_of_lt hi, h]; omega) fun ys dr' hp => wpAny_pure ?_)
    exact q _ dr' ((hp.cons _).trans (erase_perm _ _ hi))
end
/-! ### the iterator of a set -/
def SIt (h : Heap) (I d : Addr) (first : Value) (i n ep : Nat) : Prop := ∃ o, h.get? I = some o ∧ o.cls = .type "set_iterator" ∧ o.data = .fields #[first, .int i 0, .ref d, .int n 0, .int ep 0]
theorem SIt.typeIs {s : Shared} {I d : Addr} {first : Value} {i n ep : Nat} (x : SIt s.heap I d first i n ep) : s.TypeIs (.ref I) "set_iterator" := let ⟨o, ho, hc, _⟩ := x; ⟨o, ho, hc⟩
theorem SIt.at {h h' : Heap} {I d : Addr} {first : Value} {i n ep : Nat} (x : SIt h I d first i n ep) (e : ∀ o, h.get? I = some o → h'.get? I = some o) : SIt h' I d first i n ep := let ⟨o, ho, r⟩ := x; ⟨o, e _ ho, r⟩
/-- the three ways of a walk over the entries es, whose values come as ws says -/
def Way (w : World) (d T : Addr) (es : Array (Int × Value)) (ep : Nat) (t : SetTable) (ws : List (Int × Value)) (h : Heap) (first : Value) (i : Nat) : Prop :=
  (w.params.followText "set-order" = true ∧ ws = (pickOrder (w.params.setOrder d ep) es).toList ∧ ∃ z : Nat, first = .int z 0) ∨
  (w.params.followText "set-order" = false ∧ (!t.plain && decide (es.size > 1)) = false ∧ t.led = true ∧ Ris t.place ∧ t.place.size = es.size ∧ ws = es.toList ∧ ∃ z : Nat, first = .int z 0 ∧ SetTable.below t.place z = i) ∨
  (w.params.followText "set-order" = false ∧ ∃ ord : List Nat, first = .ref T ∧ h.IsTuple T (ord.map fun k : Nat => Value.int (k : Int) 0).toArray ∧ (∀ k ∈ ord, k < es.size) ∧ ws = ord.map fun k : Nat => es.getD k (0, .none))
section
variable {prog : Program} {w : World} {A : Around} {E : Value → Shared → Prop} {s : Shared}
theorem sit_item {I d T : Addr} {first : Value} {i ep : Nat} {es : Array (Int × Value)} {t : SetTable} {o : Obj} {ws : List (Int × Value)} {e : Int × Value} {Q : Option Value → Shared → Prop}
    (hit : SIt s.heap I d first i es.size ep) (ho : s.heap.get? d = some o) (hd : o.data = .set es ep t) (hf : t.fits es.size = true) (hw : Way w d T es ep t ws s.heap first i) (he : ws[i]? = some e) (hTI : T ≠ I)
    (hQ : ∀ h' first', SIt h' I d first' (i + 1) es.size ep → Way w d T es ep t ws h' first' (i + 1) → Heap.SameBut I s.heap h' → Q (some e.2) { s with heap := h' }) :
    wpAny (model prog w) A (pyNext (.ref I)) Q E s := by
  obtain ⟨oi, hoi, hci, hdi⟩ := id hit
  unfold pyNext
  refine wpAny_bind (wpAny_attempt (wpAny_callSpecial?_slot (name := Str.ofString "__next__") hit.typeIs slot_sit_next
    (wpAny_call_entry slot_sit_next hit.typeIs entry_sit_next ?_ (args_sit_next _))))
  unfold Builtin.«set_iterator.__next__»
  refine wpAny_bind (wpAny_pure ?_)
  refine wpAny_bind (wpAny_fieldsOf hoi hdi ?_)
  dsimp only
  refine wpAny_bind (wpAny_setEntries_of ho hd hf ?_)
  rw [if_neg (by simp)]
  rcases hw with ⟨w1, rfl, z, rfl⟩ | ⟨w1, w2, w3, w4, w5, rfl, z, rfl, w6⟩ | ⟨w1, ord, rfl, w2, w3, rfl⟩
  · dsimp only
    refine wpAny_bind ?_
    unfold setNext
    refine wpAny_bind (wpAny_setState_of ho hd hf ?_)
    dsimp only
    unfold setsByText
    refine wpAny_bind (wpAny_bind (wpAny_askSetting (wpAny_pure ?_)))
    rw [if_pos (show (model prog w).w.params.followText "set-order" = true from w1), if_neg (by simp)]
    refine wpAny_bind ?_
    unfold setWalk
    refine wpAny_bind (wpAny_setState_of ho hd hf ?_)
    dsimp only
    unfold setsByText
    refine wpAny_bind (wpAny_bind (wpAny_askSetting (wpAny_pure ?_)))
    rw [if_pos (show (model prog w).w.params.followText "set-order" = true from w1)]
    refine wpAny_bind (wpAny_askSetting (wpAny_pure (wpAny_pure ?_)))
    rw [Array.getElem?_toList] at he
    have he' : (pickOrder ({ program := (model prog w).prog, params := (model prog w).w.params : Setting }.params.setOrder d ep) es)[(i : Int).toNat]? = some e := he
    rw [he']
    dsimp only [Option.map]
    refine wpAny_bind (wpAny_setField hoi hdi (by simp) ?_)
    have g1 := Heap.get?_update_self (Obj.mapFields (·.setIfInBounds 0 (rawInt (((z : Int).toNat : Nat) : Int)))) hoi (Obj.isFreed_of_fields (Obj.data_mapFields hdi _))
    refine wpAny_bind (wpAny_setField g1 (Obj.data_mapFields hdi _) (by simp) ?_)
    have g2 := Heap.get?_update_self (Obj.mapFields (·.setIfInBounds 1 (rawInt ((i : Int) + 1)))) g1 (Obj.isFreed_of_fields (Obj.data_mapFields (Obj.data_mapFields hdi _) _))
    refine wpAny_pure ⟨_, rfl, wpAny_pure (hQ _ (.int (z : Int) 0) ⟨_, g2, (Obj.cls_mapFields ..).trans ((Obj.cls_mapFields ..).trans hci), ?_⟩ (.inl ⟨w1, rfl, z, rfl⟩) ((Heap.SameBut.update ..).trans (Heap.SameBut.update ..)))⟩
    rw [Obj.data_mapFields (Obj.data_mapFields hdi _)]
    simp [rawInt]
  · dsimp only
    refine wpAny_bind ?_
    unfold setNext
    refine wpAny_bind (wpAny_setState_of ho hd hf ?_)
    dsimp only
    unfold setsByText
    refine wpAny_bind (wpAny_bind (wpAny_askSetting (wpAny_pure ?_)))
    rw [if_neg (show ¬ (model prog w).w.params.followText "set-order" = true from by rw [show (model prog w).w.params.followText "set-order" = false from w1]; decide)]
    refine wpAny_ite_split (fun c => absurd (show (!t.plain && decide (es.size > 1)) = true from c) (by rw [w2]; decide)) fun _ => ?_
    refine wpAny_bind (wpAny_ite_split (fun c => absurd (show (!t.led && !es.isEmpty) = true from c) (by rw [w3]; simp)) fun _ => wpAny_pure (wpAny_pure ?_))
    have il : i < es.size := by
      have := (List.getElem?_eq_some_iff.mp he).1
      rwa [Array.length_toList] at this
    have ip : i < t.place.size := by omega
    rw [Array.getElem?_toList] at he
    rw [Int.toNat_natCast, w6, he, Array.getElem?_eq_getElem ip]
    dsimp only
    refine wpAny_bind (wpAny_setField hoi hdi (by simp) ?_)
    have g1 := Heap.get?_update_self (Obj.mapFields (·.setIfInBounds 0 (rawInt ((t.place[i] + 1 : Nat) : Int)))) hoi (Obj.isFreed_of_fields (Obj.data_mapFields hdi _))
    refine wpAny_bind (wpAny_setField g1 (Obj.data_mapFields hdi _) (by simp) ?_)
    have g2 := Heap.get?_update_self (Obj.mapFields (·.setIfInBounds 1 (rawInt ((i : Int) + 1)))) g1 (Obj.isFreed_of_fields (Obj.data_mapFields (Obj.data_mapFields hdi _) _))
    refine wpAny_pure ⟨_, rfl, wpAny_pure (hQ _ (.int ((t.place[i] + 1 : Nat) : Int) 0) ⟨_, g2, (Obj.cls_mapFields ..).trans ((Obj.cls_mapFields ..).trans hci), ?_⟩ (.inr (.inl ⟨w1, w2, w3, w4, w5, rfl, _, rfl, ?_⟩)) ((Heap.SameBut.update ..).trans (Heap.SameBut.update ..)))⟩
    · rw [Obj.data_mapFields (Obj.data_mapFields hdi _)]
      simp [rawInt]
    · have := below_next w4 ip
      rwa [Array.getD_eq_getD_getElem?, Array.getElem?_eq_getElem ip] at this
  · dsimp only
    obtain ⟨oT, hoT, hcT, nT, hdT⟩ := id w2
    rw [List.getElem?_map] at he
    obtain ⟨k, hk, rfl⟩ := Option.map_eq_some_iff.mp he
    have kl : k < es.size := w3 k (List.mem_of_getElem? hk)
    refine wpAny_bind (wpAny_seqItems hoT hdT ?_)
    dsimp only
    rw [Int.toNat_natCast, List.getElem?_toArray, List.getElem?_map, hk]
    dsimp only [Option.map]
    refine wpAny_bind ?_
    unfold setNextDrawn
    refine wpAny_bind (wpAny_setState_of ho hd hf ?_)
    dsimp only
    rw [if_neg (by simp), Int.toNat_natCast, Array.getElem?_eq_getElem kl]
    dsimp only
    refine wpAny_pure ?_
    refine wpAny_bind (wpAny_setField hoi hdi (by simp) ?_)
    have g1 := Heap.get?_update_self (Obj.mapFields (·.setIfInBounds 1 (rawInt ((i : Int) + 1)))) hoi (Obj.isFreed_of_fields (Obj.data_mapFields hdi _))
    have sb := Heap.SameBut.update s.heap I (Obj.mapFields (·.setIfInBounds 1 (rawInt ((i : Int) + 1))))
    have := hQ _ (.ref T) ⟨_, g1, (Obj.cls_mapFields ..).trans hci, by rw [Obj.data_mapFields hdi]; simp [rawInt]⟩ (.inr (.inr ⟨w1, ord, rfl, w2.extBut sb.extBut hTI, w3, rfl⟩)) sb
    rw [Array.getD_eq_getD_getElem?, Array.getElem?_eq_getElem kl] at this
    exact wpAny_pure ⟨_, rfl, wpAny_pure this⟩
theorem sit_done {I d T : Addr} {first : Value} {ep : Nat} {es : Array (Int × Value)} {t : SetTable} {o : Obj} {ws : List (Int × Value)} {Q : Option Value → Shared → Prop} (hh : A.handled = none)
    (hit : SIt s.heap I d first es.size es.size ep) (ho : s.heap.get? d = some o) (hd : o.data = .set es ep t) (hf : t.fits es.size = true) (hw : Way w d T es ep t ws s.heap first es.size) (hl : ws.length = es.size)
    (hQ : ∀ h', Heap.ExtBut I s.heap h' → Q none { s with heap := h' }) :
    wpAny (model prog w) A (pyNext (.ref I)) Q E s := by
  obtain ⟨oi, hoi, hci, hdi⟩ := id hit
  have fin : ∀ (h1 : Heap) (o1 : Obj) (vs : Array Value), Heap.SameBut I s.heap h1 → h1.get? I = some o1 → o1.data = .fields vs → vs.size = 5 →
      wpAny (model prog w) A.in1 (do
          setField (Value.ref I) 2 Value.none
          let __do_lift ← newExc (Value.type "StopIteration") []
          raiseNew __do_lift)
        (fun (fin : Fin) s' => ∃ v, fin = Fin.done (Flow.ret v) ∧ wpAny (model prog w) A (pure (some v)) Q E s')
        (fun e s' => wpAny (model prog w) A (do
          let __do_lift ← isInstance e (Value.type "StopIteration")
          if __do_lift = true then pure none else throw e) Q E s') { s with heap := h1 } := by
    intro h1 o1 vs sb g1 d1 z1
    refine wpAny_bind (wpAny_setField (s := { s with heap := h1 }) g1 d1 (by omega) ?_)
    show wpAny _ _ (newExc (.type "StopIteration") [] >>= _) _ _ _
    refine wpAny_bind ?_
    simp only [newExc, newTuple]
    refine wpAny_bind (wpAny_newObj_type ?_ (by size_fits))
    refine wpAny_bind (m := firstArgMember _ _) (wpAny_of_eq (a := Value.none) (by first | rfl | (simp only [firstArgMember]; rfl)) ?_)
    refine wpAny_newObj_type ?_ (by size_fits)
    simp only [raiseNew]
    refine wpAny_bind (wpAny_handled ?_)
    rw [show A.in1.handled = none from hh]
    refine wpAny_bind (wpAny_pure (wpAny_throw ?_))
    refine wpAny_bind (wpAny_isInstance (T := "StopIteration") (b := true) ⟨_, Heap.get?_push_size _ rfl, rfl⟩ isSubtype_stop ?_)
    exact wpAny_pure (hQ _ (((sb.trans (Heap.SameBut.update ..)).extBut.push _).push _))
  unfold pyNext
  refine wpAny_bind (wpAny_attempt (wpAny_callSpecial?_slot (name := Str.ofString "__next__") hit.typeIs slot_sit_next
    (wpAny_call_entry slot_sit_next hit.typeIs entry_sit_next ?_ (args_sit_next _))))
  unfold Builtin.«set_iterator.__next__»
  refine wpAny_bind (wpAny_pure ?_)
  refine wpAny_bind (wpAny_fieldsOf hoi hdi ?_)
  dsimp only
  refine wpAny_bind (wpAny_setEntries_of ho hd hf ?_)
  rw [if_neg (by simp)]
  rcases hw with ⟨w1, rfl, z, rfl⟩ | ⟨w1, w2, w3, w4, w5, rfl, z, rfl, w6⟩ | ⟨w1, ord, rfl, w2, w3, rfl⟩
  · dsimp only
    refine wpAny_bind ?_
    unfold setNext
    refine wpAny_bind (wpAny_setState_of ho hd hf ?_)
    dsimp only
    unfold setsByText
    refine wpAny_bind (wpAny_bind (wpAny_askSetting (wpAny_pure ?_)))
    rw [if_pos (show (model prog w).w.params.followText "set-order" = true from w1), if_neg (by simp)]
    refine wpAny_bind ?_
    unfold setWalk
    refine wpAny_bind (wpAny_setState_of ho hd hf ?_)
    dsimp only
    unfold setsByText
    refine wpAny_bind (wpAny_bind (wpAny_askSetting (wpAny_pure ?_)))
    rw [if_pos (show (model prog w).w.params.followText "set-order" = true from w1)]
    refine wpAny_bind (wpAny_askSetting (wpAny_pure (wpAny_pure ?_)))
    have he' : (pickOrder ({ program := (model prog w).prog, params := (model prog w).w.params : Setting }.params.setOrder d ep) es)[(es.size : Int).toNat]? = none := Array.getElem?_eq_none (by rw [Array.length_toList] at hl; exact Nat.le_of_eq hl)
    rw [he']
    dsimp only [Option.map]
    exact fin s.heap oi _ (Heap.SameBut.refl ..) hoi hdi rfl
  · dsimp only
    refine wpAny_bind ?_
    unfold setNext
    refine wpAny_bind (wpAny_setState_of ho hd hf ?_)
    dsimp only
    unfold setsByText
    refine wpAny_bind (wpAny_bind (wpAny_askSetting (wpAny_pure ?_)))
    rw [if_neg (show ¬ (model prog w).w.params.followText "set-order" = true from by rw [show (model prog w).w.params.followText "set-order" = false from w1]; decide)]
    refine wpAny_ite_split (fun c => absurd (show (!t.plain && decide (es.size > 1)) = true from c) (by rw [w2]; decide)) fun _ => ?_
    refine wpAny_bind (wpAny_ite_split (fun c => absurd (show (!t.led && !es.isEmpty) = true from c) (by rw [w3]; simp)) fun _ => wpAny_pure (wpAny_pure ?_))
    rw [Int.toNat_natCast, w6, Array.getElem?_eq_none (Nat.le_refl _)]
    dsimp only
    exact fin s.heap oi _ (Heap.SameBut.refl ..) hoi hdi rfl
  · dsimp only
    obtain ⟨oT, hoT, hcT, nT, hdT⟩ := id w2
    refine wpAny_bind (wpAny_seqItems hoT hdT ?_)
    dsimp only
    rw [Int.toNat_natCast, List.getElem?_toArray, List.getElem?_eq_none (by rw [List.length_map] at hl ⊢; omega)]
    dsimp only
    refine wpAny_bind (wpAny_setField hoi hdi (by simp) ?_)
    have g1 := Heap.get?_update_self (Obj.mapFields (·.setIfInBounds 0 (rawInt 0))) hoi (Obj.isFreed_of_fields (Obj.data_mapFields hdi _))
    exact fin _ _ _ (Heap.SameBut.update ..) g1 (Obj.data_mapFields hdi _) rfl
theorem sit_self {I d : Addr} {first : Value} {i n ep : Nat} {Q : Value → Shared → Prop} (hit : SIt s.heap I d first i n ep) (h : Q (.ref I) s) : wpAny (model prog w) A (pyIter (.ref I)) Q E s := by
  refine wpAny_pyIter_slot hit.typeIs slot_sit_iter (wpAny_call_entry slot_sit_iter hit.typeIs entry_sit_iter ?_ (args_sit_iter _))
  show wpAny _ _ (ret (.ref I)) _ _ s
  exact wpAny_pure ⟨_, rfl, "set_iterator", _, hit.typeIs, slot_sit_next.lookup, h⟩
/-- pyIter of a set: the iterator, and the order of the walk -/
theorem set_iter {d : Addr} {o : Obj} {es : Array (Int × Value)} {ep : Nat} {t : SetTable} {Q : Value → Shared → Prop} (ho : s.heap.get? d = some o) (hex : o.ExactSet) (hd : o.data = .set es ep t) (hb : es.size < scanBound) (hf : t.fits es.size = true) (hr : Ris t.place) (hl : t.led = ledW w)
    (hQ : ∀ (I T : Addr) (h' : Heap) (dr) (first : Value) (ws : List (Int × Value)), (∀ b ob, s.heap.get? b = some ob → h'.get? b = some ob) → s.heap.objs.size ≤ I → (T = d ∨ s.heap.objs.size ≤ T) → T ≠ I → ws.Perm es.toList → SIt h' I d first 0 es.size ep → Way w d T es ep t ws h' first 0 → Q (.ref I) { s with heap := h', drawn := dr }) :
    wpAny (model prog w) A (pyIter (.ref d)) Q E s := by
  have hT : s.TypeIs (.ref d) "set" := ⟨o, ho, hex.1⟩
  have dlt := Heap.lt_size ho
  refine wpAny_pyIter_slot hT PySem.F.slot_set_iter (wpAny_call_entry PySem.F.slot_set_iter hT entry_set_iterS ?_ (PySem.F.args_set_iter_1 _))
  unfold Builtin.«frozenset.__iter__»
  refine wpAny_bind ?_
  unfold Builtin.Frozenset.slot0
  refine wpAny_bind (wpAny_pure ?_)
  show wpAny _ _ (pure d) _ _ s
  refine wpAny_pure (wpAny_bind ?_)
  unfold Builtin.Frozenset.sizeOf
  refine wpAny_bind (wpAny_setEntries_of ho hd hf (wpAny_pure ?_))
  refine wpAny_bind ?_
  unfold setDrawn
  refine wpAny_bind (wpAny_setState_of ho hd hf ?_)
  dsimp only
  unfold setsByText
  refine wpAny_bind (wpAny_bind (wpAny_askSetting (wpAny_pure (wpAny_pure ?_))))
  have hps : t.place.size = es.size := by
    unfold SetTable.fits at hf
    simp at hf
    exact hf.1
  have plainCase : Way w d d es ep t (if w.params.followText "set-order" = true then (pickOrder (w.params.setOrder d ep) es).toList else es.toList) (s.heap.push { cls := .type "set_iterator", data := .fields [rawInt 0, rawInt 0, .ref d, rawInt es.size, rawInt ep].toArray }) (.int 0 0) 0 ∨ (w.params.followText "set-order" = false ∧ (!t.plain && decide (es.size > 1)) = true) := by
    cases c : w.params.followText "set-order" with
    | true =>
      rw [if_pos rfl]
      exact .inl (.inl ⟨c, rfl, 0, rfl⟩)
    | false =>
      cases c2 : (!t.plain && decide (es.size > 1)) with
      | true => exact .inr ⟨rfl, rfl⟩
      | false =>
        refine .inl (.inr (.inl ⟨c, c2, hl.trans (by unfold ledW; rw [c]; rfl), hr, hps, by rw [if_neg Bool.false_ne_true], 0, rfl, below_zero hr⟩))
  refine wpAny_ite_split (fun c => ?_) (fun c => ?_)
  · have c' : (!(model prog w).w.params.followText "set-order" && (!t.plain && decide (es.size > 1))) = true := c
    rw [Bool.and_eq_true, Bool.not_eq_true'] at c'
    have c1 : w.params.followText "set-order" = false := c'.1
    refine wpAny_bind (draw_wp _ _ _ _ (List.length_range) fun ord dr hp => ?_)
    have lo : ord.length = es.size := by rw [hp.length_eq, List.length_range]
    refine wpAny_bind (wpAny_newTuple ?_ (by rw [List.length_map, lo, sizeLine_eq]; have : scanBound = 4096 := rfl; omega))
    refine wpAny_bind ?_
    unfold setEpoch
    have ho1 := Heap.get?_push_of_some (h := s.heap) { cls := .type "tuple", data := .seq (ord.map fun i : Nat => rawInt (i : Int)).toArray } ho
    refine wpAny_bind (wpAny_setState_of ho1 hd hf (wpAny_pure ?_))
    refine wpAny_bind ?_
    unfold newFields
    refine wpAny_newObj_type (wpAny_pure ⟨_, rfl, "set_iterator", _, ⟨_, Heap.get?_push_size _ rfl, rfl⟩, slot_sit_next.lookup, ?_⟩)
    refine hQ _ s.heap.objs.size _ dr (.ref s.heap.objs.size) (ord.map fun k : Nat => es.getD k (0, .none)) (fun b ob e => Heap.get?_push_of_some _ (Heap.get?_push_of_some _ e)) (by dsimp only; rw [Heap.size_push]; exact Nat.le_succ _) (.inr (Nat.le_refl _)) (by dsimp only; rw [Heap.size_push]; exact Nat.ne_of_lt (Nat.lt_succ_self _)) ?_ ⟨_, Heap.get?_push_size _ rfl, rfl, rfl⟩ (.inr (.inr ⟨c1, ord, rfl, ⟨_, Heap.get?_push_of_some _ (Heap.get?_push_size _ rfl), rfl, _, rfl⟩, fun k hk => List.mem_range.mp (hp.mem_iff.mp hk), rfl⟩))
    refine (hp.map _).trans (List.Perm.of_eq (List.ext_getElem? fun j => ?_))
    rw [List.getElem?_map]
    by_cases cj : j < es.size
    · rw [List.getElem?_range cj, Array.getElem?_toList, Array.getElem?_eq_getElem cj]
      show some (es.getD j (0, .none)) = _
      rw [Array.getD_eq_getD_getElem?, Array.getElem?_eq_getElem cj]
      rfl
    · rw [List.getElem?_eq_none (by rw [List.length_range]; omega), List.getElem?_eq_none (by rw [Array.length_toList]; omega)]
      rfl
  · refine wpAny_bind (wpAny_pure ?_)
    refine wpAny_bind ?_
    unfold setEpoch
    refine wpAny_bind (wpAny_setState_of ho hd hf (wpAny_pure ?_))
    refine wpAny_bind ?_
    unfold newFields
    refine wpAny_newObj_type (wpAny_pure ⟨_, rfl, "set_iterator", _, ⟨_, Heap.get?_push_size _ rfl, rfl⟩, slot_sit_next.lookup, ?_⟩)
    rcases plainCase with pc | ⟨c1, c2⟩
    · refine hQ _ d _ s.drawn (.int 0 0) _ (fun b ob e => Heap.get?_push_of_some _ e) (Nat.le_refl _) (.inl rfl) (Nat.ne_of_lt dlt) ?_ ⟨_, Heap.get?_push_size _ rfl, rfl, rfl⟩ pc
      split
      · exact pickOrder_perm _ _
      · exact List.Perm.refl _
    · exact absurd (show (!(model prog w).w.params.followText "set-order" && (!t.plain && decide (es.size > 1))) = true by rw [show (model prog w).w.params.followText "set-order" = false from c1, c2]; rfl) c
theorem walks_set (hh : A.handled = none) {I d T : Addr} {o : Obj} {es : Array (Int × Value)} {ep : Nat} {t : SetTable} {ws : List (Int × Value)} (hd : o.data = .set es ep t) (hf : t.fits es.size = true) (hl : ws.length = es.size) (hdI : d ≠ I) (hTI : T ≠ I) :
    Walks prog w A I [I, d, T] [I] ws.length (fun i v => ∃ e, ws[i]? = some e ∧ v = e.2) (fun i h => ∃ first, SIt h I d first i es.size ep ∧ h.get? d = some o ∧ Way w d T es ep t ws h first i) where
  sub := fun b hb => by simp at hb; simp [hb]
  frame := fun i h h' st hk => by
    obtain ⟨first, h1, h2, h3⟩ := st
    refine ⟨first, h1.at fun o e => hk I (by simp) o e, hk d (by simp) _ h2, ?_⟩
    rcases h3 with z | z | ⟨z1, ord, z2, ⟨oT, z3, z4⟩, z5, z6⟩
    · exact .inl z
    · exact .inr (.inl z)
    · exact .inr (.inr ⟨z1, ord, z2, ⟨oT, hk T (by simp) _ z3, z4⟩, z5, z6⟩)
  item := fun i s Q E hi st hQ => by
    obtain ⟨first, h1, h2, h3⟩ := st
    refine sit_item h1 h2 hd hf h3 (List.getElem?_eq_getElem hi) hTI fun h' first' a b sb => ?_
    exact hQ _ h' s.toks ⟨_, List.getElem?_eq_getElem hi, rfl⟩ ⟨first', a, (sb.2 d hdI).trans h2, b⟩ fun b o hb e => (sb.2 b (fun z => hb (by simp [z]))).trans e
  done := fun s Q E st hQ => by
    obtain ⟨first, h1, h2, h3⟩ := st
    rw [hl] at h1 h3
    exact sit_done hh h1 h2 hd hf h3 hl fun h' eb => hQ h' s.toks fun b o hb e => eb b o (fun z => hb (by simp [z])) e
  self := fun i s Q E st hQ => by
    obtain ⟨first, h1, _⟩ := st
    exact sit_self h1 hQ
theorem set_hint {r : Addr} {Q : Bool → Shared → Prop} (hT : s.TypeIs (.ref r) "set") (h : Q false s) : wpAny (model prog w) A (Builtin.List.listLengthHint (.ref r)) Q E s := by
  unfold Builtin.List.listLengthHint
  refine wpAny_bind (wpAny_specialOf hT PySem.F.slot_set_len.lookup ?_)
  generalize hid : ("set.__len__" : String) = id0
  wp_delta
  rw [show splitId id0 = some ("set", "__len__") from by subst hid; decide +kernel]
  subst hid
  refine wpAny_bind (wpAny_isInstance (T := "set") (b := true) hT (by rw [isSubtype_type]; kernel_rfl) ?_)
  refine wpAny_ite_split (fun hab => absurd hab (by decide)) (fun _ => ?_)
  refine wpAny_ite_split (fun _ => ?_) (fun hab => absurd (by decide +kernel) hab)
  refine wpAny_bind (wpAny_typeOf hT ?_)
  exact wpAny_pure h
theorem set_extend {R : Result → Shared → Prop} {d : Addr} {o : Obj} {es : Array (Int × Value)} {ep : Nat} {t : SetTable} (hh : A.handled = none) (ho : s.heap.get? d = some o) (hex : o.ExactSet) (hd : o.data = .set es ep t) (hb : es.size < scanBound) (hf : t.fits es.size = true) (hr : Ris t.place) (hl : t.led = ledW w)
    (S : Addr) (hSd : S ≠ d) (res : Value) (c₀ : Nat) (hS : s.heap.get? S = some { cls := .type "list", data := .seq #[] c₀ })
    (hR : ∀ h' tk dr acc' c' (ws : List (Int × Value)), ws.Perm es.toList → (∀ b o, b ≠ S → s.heap.get? b = some o → h'.get? b = some o) → h'.get? S = some { cls := .type "list", dict := none, data := .seq acc' c', slots := #[] } → ItemsOf (fun i v => ∃ e, ws[i]? = some e ∧ v = e.2) acc' ws.length → R (.ok (.ret res)) { s with heap := h', toks := tk, drawn := dr }) :
    wpAny (model prog w) A.in1 (Builtin.List.listExtendWith (.ref S) (.ref d) res)
      (fun fin s' => match fin with | .done f => R (.ok f) s' | .again c' => c'.quiet = true ∧ codeAny (model prog w) A c' R s') (fun e s' => R (.error e) s') s := by
  have hT : s.TypeIs (.ref d) "set" := ⟨o, ho, hex.1⟩
  unfold Builtin.List.listExtendWith
  refine wpAny_bind (wpAny_typeOf (T := "set") hT ?_)
  have h1 : Builtin.List.listSameRef (.ref S) (.ref d) = false := by simp [Builtin.List.listSameRef, hSd]
  have n1 : (Value.type "set" == Value.type "list") = false := by decide
  have n2 : (Value.type "set" == Value.type "tuple") = false := by decide
  simp only [h1, n1, n2, Bool.or_false, Bool.false_eq_true, if_false]
  refine wpAny_bind (set_iter ho hex hd hb hf hr hl fun I T h1 dr first ws kp iI iT hTI pw sit way => ?_)
  have lw : ws.length = es.size := by rw [pw.length_eq, Array.length_toList]
  have Slt := Heap.lt_size hS
  have dlt := Heap.lt_size ho
  have hSI : S ≠ I := fun z => by rw [z] at Slt; exact absurd Slt (Nat.not_lt.mpr iI)
  have hdI : d ≠ I := fun z => by rw [z] at dlt; exact absurd dlt (Nat.not_lt.mpr iI)
  have hST : S ≠ T := fun z => by
    rcases iT with e | e
    · exact hSd (z.trans e)
    · rw [z] at Slt; exact absurd Slt (Nat.not_lt.mpr e)
  have W := walks_set (prog := prog) (w := w) (A := A.in1) hh (o := o) (ws := ws) hd hf lw hdI hTI
  have hSf : S ∉ [I, d, T] := by simp only [List.mem_cons, List.not_mem_nil, or_false, not_or]; exact ⟨hSI, hSd, hST⟩
  have sb : scanBound = 4096 := rfl
  have key : ∀ (h : Heap) (c₁ tk : Nat), (∃ first, SIt h I d first 0 es.size ep ∧ h.get? d = some o ∧ Way w d T es ep t ws h first 0) → (∀ b o, b ≠ S → s.heap.get? b = some o → h.get? b = some o) →
      h.get? S = some { cls := .type "list", data := .seq #[] c₁ } → codeAny (model prog w) A (.builtin "list.extend.loop" ⟨[.ref S, .ref I, res], []⟩) R { s with heap := h, toks := tk, drawn := dr } := by
    intro h c₁ tk hst hk hS₁
    refine codeAny_extend_loopS W.toS (by rw [lw, sizeLine_eq]; omega) S hSf res ws.length 0 _ #[] c₁ rfl (Nat.zero_le _) hst hS₁ (ItemsOf.nil _) fun s' acc' c' hm hS' hacc => ?_
    rw [Moved.eq_with hm]
    refine hR s'.heap s'.toks dr acc' c' ws pw (fun b o hb e => hm.heap b o (fun hmem => ?_) (hk b o hb e)) hS' hacc
    rcases List.mem_cons.mp hmem with e' | hmem
    · exact hb e'
    · have := Heap.lt_size e
      rw [List.mem_singleton.mp hmem] at this
      exact absurd this (Nat.not_lt.mpr iI)
  have hS₁ := kp _ _ hS
  have hT₁ : Shared.TypeIs { s with heap := h1, drawn := dr } (.ref d) "set" := ⟨o, kp _ _ ho, hex.1⟩
  refine wpAny_bind (wpAny_holding (set_hint hT₁ ?_))
  have st0 : ∃ first, SIt h1 I d first 0 es.size ep ∧ h1.get? d = some o ∧ Way w d T es ep t ws h1 first 0 := ⟨first, sit, kp _ _ ho, way⟩
  refine wpAny_ite_split (fun _ => ?_) (fun _ => wpAny_pure ⟨plainId_quiet PySem.F.plain_extend_loop _, key _ c₀ _ st0 (fun b o _ e => kp _ _ e) hS₁⟩)
  refine wpAny_bind (wpAny_rule ?_)
  refine wpAny_bind ?_
  show wpAny _ _ (updateSeq S (·.push .none) >>= fun _ => updateSeq S (·.pop)) _ _ _
  refine wpAny_bind (wpAny_updateSeq hS₁ rfl ?_)
  have hS₂ := Heap.get?_update_self (Obj.mapSeq (·.push Value.none)) hS₁ rfl
  refine wpAny_updateSeq (hz := by seq_fits) hS₂ rfl ?_
  have hS₃ := Heap.get?_update_self (Obj.mapSeq (·.pop)) hS₂ rfl
  refine wpAny_pure ⟨plainId_quiet PySem.F.plain_extend_loop _, key _ _ _ ?_ (fun b o hb e => ?_) hS₃⟩
  · refine W.frame 0 _ _ st0 fun b hb o e => ?_
    have hbS : b ≠ S := fun h => hSf (h ▸ hb)
    exact (Heap.get?_update_other _ _ (Ne.symm hbS)).trans ((Heap.get?_update_other _ _ (Ne.symm hbS)).trans e)
  · exact (Heap.get?_update_other _ _ (Ne.symm hb)).trans ((Heap.get?_update_other _ _ (Ne.symm hb)).trans (kp _ _ e))
theorem collect_set {d : Addr} {o : Obj} {es : Array (Int × Value)} {ep : Nat} {t : SetTable} {Q : List Value → Shared → Prop} (hh : A.handled = none) (ho : s.heap.get? d = some o) (hex : o.ExactSet) (hd : o.data = .set es ep t) (hb : es.size < scanBound) (hf : t.fits es.size = true) (hr : Ris t.place) (hl : t.led = ledW w)
    (h : ∀ (h' : Heap) (tk : Nat) (dr : Drawn) (vs : List Value), (∀ b o, s.heap.get? b = some o → h'.get? b = some o) → s.heap.objs.size < h'.objs.size → vs.Perm (es.toList.map (·.2)) → Q vs { s with heap := h', toks := tk, drawn := dr }) :
    wpAny (model prog w) A (collect (.ref d)) Q E s := by
  have hlt : d < s.heap.objs.size := Heap.lt_size ho
  unfold collect
  refine wpAny_bind (wpAny_runValue (codeAny_builtin PyProof.Rows.entry_proto_collect' ?_))
  rw [Around.under_plainId PySem.F.plain_proto_collect _]
  show wpAny _ A.in1 (newList [] >>= fun l => again (.builtin "list.__iadd__" ⟨[l, .ref d], []⟩)) _ _ s
  refine wpAny_bind (wpAny_newObj_type ?_)
  refine wpAny_pure ⟨plainId_quiet PySem.F.plain_list_iadd _, codeAny_builtin PyProof.Rows.entry_list_iadd' ?_⟩
  rw [Around.under_plainId PySem.F.plain_list_iadd _]
  have hS₁ : (s.heap.push { cls := .type "list", data := .seq ([] : List Value).toArray }).get? s.heap.objs.size = some { cls := .type "list", data := .seq #[] } := Heap.get?_push_size _ rfl
  show wpAny _ A.in1 (Builtin.List.listExtendWith (.ref s.heap.objs.size) (.ref d) (.ref s.heap.objs.size)) _ _ _
  have key := set_extend (prog := prog) (w := w) (A := A) (s := { s with heap := s.heap.push { cls := .type "list", data := .seq ([] : List Value).toArray } })
    (R := fun (q : Result) (s' : Shared) => ∃ (h' : Heap) (tk : Nat) (dr : Drawn) (acc' : Array Value) (c' : Nat) (ws : List (Int × Value)), q = .ok (.ret (.ref s.heap.objs.size)) ∧ s' = { s with heap := h', toks := tk, drawn := dr } ∧ ws.Perm es.toList ∧
      (∀ b o, s.heap.get? b = some o → h'.get? b = some o) ∧ h'.get? s.heap.objs.size = some { cls := .type "list", dict := none, data := .seq acc' c', slots := #[] } ∧ ItemsOf (fun i v => ∃ e, ws[i]? = some e ∧ v = e.2) acc' ws.length)
    hh (Heap.get?_push_of_some _ ho) hex hd hb hf hr hl s.heap.objs.size (Nat.ne_of_gt hlt) (.ref s.heap.objs.size) 0 hS₁
    (fun h' tk dr acc' c' ws pw hk hS' hacc => ⟨h', tk, dr, acc', c', ws, rfl, rfl, pw, fun b o e => hk b o (Nat.ne_of_lt (Heap.lt_size e)) (Heap.get?_push_of_some _ e), hS', hacc⟩)
  have fin : ∀ (h' : Heap) (tk : Nat) (dr : Drawn) (acc' : Array Value) (c' : Nat) (ws : List (Int × Value)), ws.Perm es.toList → (∀ b o, s.heap.get? b = some o → h'.get? b = some o) → h'.get? s.heap.objs.size = some { cls := .type "list", dict := none, data := .seq acc' c', slots := #[] } → ItemsOf (fun i v => ∃ e, ws[i]? = some e ∧ v = e.2) acc' ws.length → Q acc'.toList { s with heap := h', toks := tk, drawn := dr } := fun h' tk dr acc' c' ws pw hk hS' hacc => by
    refine h h' tk dr acc'.toList hk (Heap.lt_size hS') ?_
    have e : acc'.toList = ws.map (·.2) := by
      refine List.ext_getElem? fun j => ?_
      rw [List.getElem?_map]
      by_cases cj : j < acc'.size
      · rw [Array.getElem?_toList, Array.getElem?_eq_getElem cj]
        obtain ⟨e, e1, e2⟩ := hacc.2 j _ (Array.getElem?_eq_getElem cj)
        rw [e1, e2]
        rfl
      · have l1 := hacc.1
        rw [List.getElem?_eq_none (by rw [Array.length_toList]; omega), List.getElem?_eq_none (by omega)]
        rfl
    rw [e]
    exact pw.map _
  refine wpAny_mono key (fun fin' s' x => ?_) fun e s' x => ?_
  · cases fin' with
    | done f =>
      obtain ⟨h', tk, dr, acc', c', ws, e, rfl, pw, hk, hS', hacc⟩ := x
      cases e
      show wpAny _ A (load s.heap.objs.size >>= _) _ _ _
      refine wpAny_bind (wpAny_load hS' ?_)
      exact wpAny_pure (fin h' tk dr acc' c' ws pw hk hS' hacc)
    | again c₁ =>
      refine ⟨x.1, codeAny_mono x.2 fun q s₂ y => ?_⟩
      obtain ⟨h', tk, dr, acc', c', ws, rfl, rfl, pw, hk, hS', hacc⟩ := y
      show wpAny _ A (load s.heap.objs.size >>= _) _ _ _
      refine wpAny_bind (wpAny_load hS' ?_)
      exact wpAny_pure (fin h' tk dr acc' c' ws pw hk hS' hacc)
  · obtain ⟨_, _, _, _, _, _, e', _⟩ := x
    cases e'
end
/-! ### sorted(set(e)) of numbers -/
theorem Inv.drew {X : Cx} {pins : List (Addr × Obj)} {σ : List (Option V)} {H : Hp} {s : Shared} {dr : Drawn} (I : Inv X pins σ H s) : Inv X pins σ H { s with drawn := dr } :=
  ⟨I.ok, I.os, I.bare, I.base, I.loc, I.cell, I.free, I.freeC, I.pin, I.hok, I.len⟩
theorem ints_perm : ∀ {ks : List Int} {es : List (Int × Value)}, Paired (fun k (e : Int × Value) => Value.isInt k e.2 = true) ks es → IntsAre (es.map (·.2)) ks
  | _, _, .nil => .nil
  | _, _, .cons h r => by
    obtain ⟨t, e⟩ := Value.isInt_shape h
    rw [List.map_cons, e]
    exact .cons _ _ (ints_perm r)
theorem ints_permuted {vs : List Value} {us : List Value} (p : us.Perm vs) : ∀ {ks : List Int}, IntsAre vs ks → ∃ ms, IntsAre us ms ∧ ms.Perm ks := by
  induction p with
  | nil => intro ks h; exact ⟨ks, h, List.Perm.refl _⟩
  | cons x _ ih =>
    intro ks h
    cases h with
    | cons a b r =>
      obtain ⟨ms, h1, h2⟩ := ih r
      exact ⟨_, .cons a b h1, h2.cons _⟩
  | swap x y l =>
    intro ks h
    cases h with
    | cons a b r =>
      cases r with
      | cons a' b' r' => exact ⟨_, .cons a' b' (.cons a b r'), List.Perm.swap _ _ _⟩
  | trans _ _ i1 i2 =>
    intro ks h
    obtain ⟨m1, a1, b1⟩ := i2 h
    obtain ⟨m2, a2, b2⟩ := i1 a1
    exact ⟨m2, a2, b2.trans b1⟩
section
variable {X : Cx} {e : Expr} {te : TE} {p p2 pos pos2 : Pos}
end
end L2

/-! ## < of two lists of numbers of one length -/
namespace HT
open PySem PyProof.Rows
section
open PySem.SeqAt
open PySem.AutoSeq1 (wpAny_loadPart')
open PySem.MeetsSeq PySem.MeetsSeq2 PySem.MeetsSeq3
section
variable {prog : Program} {w : World} {A : Around} {E : Value → Shared → Prop} {s : Shared}
end
end
end HT
namespace L2
open PySem PySem.Spec PyProof.Rows
end L2

/-! ## min(list, key=f): the loop -/
namespace L2
open PySem PySem.Spec PyProof.Rows
section
variable {prog : Program} {w : World} {A : Around} {R : Result → Shared → Prop}
theorem args_minK (a b : Value) : argsOk "min" ⟨[a], [(Str.ofString "key", b)]⟩ := by unfold argsOk; kernel_rfl
end
section
variable {prog : Program} {w : World} {A : Around} {E : Value → Shared → Prop} {s : Shared}
theorem min_startK {p f : Addr} {its : Array Value} {Q : Value → Shared → Prop} (hl : s.heap.IsList p its)
    (h : codeAny (model prog w) A (.builtin "min.loop" ⟨[.ref s.heap.objs.size, .ref f, .ref (s.heap.objs.size + 1)], []⟩) (wants Q E) { s with heap := (s.heap.push { cls := .type "list_iterator", data := .fields #[.ref p, .int 0 0] }).push { cls := .type "list", data := .seq #[] } }) :
    wpAny (model prog w) A (call (.builtin "min") [.ref p] [(Str.ofString "key", .ref f)]) Q E s := by
  refine tree_kw F.kind_min F.plain_min F.entry_min (args_minK _ _) ?_
  show wpAny _ A.in1 (Builtin.Builtins.bindParams "min" ["key", "default"] 0 ⟨[], [(Str.ofString "key", .ref f)]⟩ >>= _) _ _ s
  refine wpAny_bind (wpAny_of_eq (show Builtin.Builtins.bindParams "min" ["key", "default"] 0 ⟨[], [(Str.ofString "key", .ref f)]⟩ = pure [some (.ref f), none] from rfl) ?_)
  refine wpAny_bind (wpAny_pure ?_)
  refine wpAny_bind (wpAny_pyIter_list hl ?_)
  refine wpAny_bind (wpAny_newObj_type ?_)
  have nm : (toString "min" ++ toString ".loop" : String) = "min.loop" := by decide
  rw [nm]
  have e1 : (s.heap.push { cls := .type "list_iterator", data := .fields #[.ref p, .int 0 0] }).objs.size = s.heap.objs.size + 1 := Heap.size_push ..
  refine wpAny_pure ⟨plainId_quiet F.plain_min_loop _, ?_⟩
  rw [← e1] at h
  exact h
end
end L2

/-! ## the call of a lambda whose body is a call of a function of the fragment -/
namespace L2
open PySem PySem.Spec PySem.Calls PyProof.Rows
/-- a frame that was not there before may be forgotten -/
theorem Un.drop {L : Addr} {fs : List Addr} {H H' : Hp} {h h1 h' : Heap} (u : Un (L :: fs) [] H H' h1 h') (k : ∀ b o, h.get? b = some o → h1.get? b = some o) (hL : h.get? L = none) : Un fs [] H H' h h' where
  keep := fun b o e n nf _ => u.keep b o (k b o e) n (fun z => by
    rcases List.mem_cons.mp z with z | z
    · rw [z, hL] at e; cases e
    · exact nf z) (by simp)
  slot := fun b o e n hf _ => u.slot b o (k b o e) n (List.mem_cons_of_mem _ hf) (by simp)
  free := fun b o e n _ => u.free b o (k b o e) n (by simp)
  there := fun b o e _ => u.there b o (k b o e) (by simp)
  tups := u.tups
  frzs := u.frzs
  tbls := u.tbls
section
variable {X : Cx}
/-- the stack with one env more on it -/
theorem Inv.env1 {pins : List (Addr × Obj)} {σ : St} {H : Hp} {s : Shared} {A : Around} {h1 : Heap} {env : Env} {m : Str → Option Value} (I : Inv X pins σ H s) (hA : A.frames = some (env :: X.stack)) (k : ∀ b o, s.heap.get? b = some o → h1.get? b = some o) (hk : env.scope.kind ≠ .module) (hf : env.frame = some s.heap.objs.size) (hn : h1.Ns s.heap.objs.size m) (tk : Nat) :
    Env0 X.prog X.w X.K X.mg X.base A (env :: X.stack) { s with heap := h1, toks := tk } H := by
  have I1 : Inv X pins σ H { s with heap := h1, toks := tk } := I.kept (t' := tk) k
  have bz : X.base.objs.size ≤ s.heap.objs.size := Nat.le_trans I.ok.bsz I.sz
  refine ⟨hA, I.ok.mod, I1.bs, Nat.le_trans I.ok.bsz I1.sz, .cons hk hf hn (Heap.get?_none_of_le bz) I1.stack, fun b hb => ?_, I1.hok, I1.bare⟩
  unfold frs at hb
  rw [List.filterMap_cons, hf] at hb
  rcases List.mem_cons.mp hb with e | hb
  · rw [e]; exact I.hok.fresh (Nat.le_refl _)
  · exact I1.stkFree b hb
/-- behind a call made at that stack -/
theorem Inv.after1 {pins : List (Addr × Obj)} {σ : St} {H : Hp} {s s' : Shared} {h1 : Heap} {env : Env} {Q : VK} {u : Value} {tk : Nat} (I : Inv X pins σ H s) (k : ∀ b o, s.heap.get? b = some o → h1.get? b = some o) (hf : env.frame = some s.heap.objs.size) (h : CE (env :: X.stack) X.prog X.w H { s with heap := h1, toks := tk } Q u s') : EP X pins σ Q u s' := by
  obtain ⟨v, H', os, bare, un, hok, r, q⟩ := h
  have e : frs (env :: X.stack) = s.heap.objs.size :: frs X.stack := by
    unfold frs
    rw [List.filterMap_cons, hf]
  rw [e] at un
  refine I.after (u := u) ⟨v, H', os, bare, Un.drop un k (Heap.get?_none_of_le (Nat.le_refl _)), hok, r, q⟩
abbrev rkBody (p0 p1 p2 p3 p4 p5 : Pos) : Expr := .Call (.Name "rank_of" p0) [.Name "buys" p1, .Name "sells" p2, .Name "near" p3, .Name "price" p4] [] p5
abbrev rkScope : Scope := { kind := .function, names := [("price", .local), ("buys", .free), ("near", .free), ("sells", .free), ("rank_of", .globalImplicit)], isGenerator := false, isCoroutine := false }
abbrev rkArgs (pa : Pos) : Arguments := { posonlyargs := [], args := [{ arg := "price", annotation := none, pos := pa }], vararg := none, kwonlyargs := [], kw_defaults := [], kwarg := none, defaults := [] }
/-- one question of the key: the lambda's call at any Around above the body's -/
theorem rk_call {pins : List (Addr × Obj)} {σ : St} {H : Hp} {s : Shared} {A : Around} {k : Nat} {f fr c' cb cs cn : Addr} {fd : FuncData} {sp : Sp} {CX : CXT} {qual : Str} {pa p0 p1 p2 p3 p4 p5 : Pos} {pm ctv u : Value} {ub us un : Value} {v : V} {vb vs vn : V} {cl : List (Str × Addr)} {Q : VK} {E : XK} {EE : Value → Shared → Prop}
    (F : FnOk X.prog X.w X.K X.mg X.base CX k fr fd ["buys", "sells", "near", "price"] sp) (hb : Binds X.K fd ["buys", "sells", "near", "price"] []) (hr : Room (k + 1) A) (hA : A.frames = some X.stack)
    (hno : ∀ env H s e s', ¬ CX (env :: X.stack) H s E e s')
    (hm : X.mg "rank_of" = some (.ref fr)) (hk : PySem.W.keepIn X.K (.ref fr) = true) (I : Inv X pins σ H s)
    (ho : s.heap.get? f = some (PySem.W.kla_obj "<lambda>" qual (rkArgs pa) (rkBody p0 p1 p2 p3 p4 p5) rkScope cl pm c' ctv)) (hcd : s.heap.CodeRec (.ref c') qual)
    (hcb : cl.lookup ("buys" : Str) = some cb) (hcs : cl.lookup ("sells" : Str) = some cs) (hcn : cl.lookup ("near" : Str) = some cn)
    (hib : s.heap.IsCell cb (some ub)) (his : s.heap.IsCell cs (some us)) (hin : s.heap.IsCell cn (some un)) (rb : RelV vb ub) (rs : RelV vs us) (rn : RelV vn un) (rv : RelV v u)
    (h : sp [vb, vs, vn, v] H Q E) :
    wpAny (model X.prog X.w) A (call (.ref f) [u]) (EP X pins σ Q) EE s := by
  refine wpAny_call (PySem.W.kla_callFunE hr.depth ho rfl rfl rfl rfl hcd ?_)
  rw [show bindArgs (PySem.W.kla_fn "<lambda>" qual (rkArgs pa) (rkBody p0 p1 p2 p3 p4 p5) rkScope cl pm (.ref c') ctv) ⟨[u], []⟩ = (pure [(("price" : Str), u)] : Sem (List (Str × Value))) from rfl]
  refine wpAny_pure (wpAny_newFunctionEnv (show ∀ x ∈ rkScope.names, x.2 ≠ NameKind.cell by decide) (fun x hx => by rw [List.mem_singleton.mp hx]; rfl) (fun h₁ hns hsb => ?_) rfl)
  have hk₁ : Kp s.heap h₁ := fun b o e => hsb.extBut b o (Nat.ne_of_lt (Heap.lt_size e)) (Heap.get?_push_of_some _ e)
  refine ⟨I.nolimit.keeps hk₁, ?_⟩
  show codeAny _ _ (.expr (rkBody p0 p1 p2 p3 p4 p5) (PySem.W.envX qual rkScope s.heap.objs.size f (.ref c') cl)) _ _
  refine PySem.W.kla_codeExpr ?_
  have I1 : Inv X pins σ H { s with heap := h₁, toks := s.toks + 1 } := I.kept (t' := s.toks + 1) hk₁
  have cell1 : ∀ {c : Addr} {x : Value}, s.heap.IsCell c (some x) → h₁.IsCell c (some x) := fun ⟨o, e, d⟩ => ⟨o, hk₁ _ _ e, d⟩
  refine wpAny_Call_Name_kw (Calls.Name_function_global rfl (by first | rfl | exact .inl rfl | exact .inr rfl) (Calls.loadGlobal_global (I.mod.glob.keeps I1.bk) hm ?_) (by decide))
  refine PySem.W.callWith_K (h₀ := X.base) I.ok.mod.kin hk ?_ rfl rfl
  show wpAny _ _ (spliced ((false, eval (.Name "buys" p1) _) :: backTo p5 (starEach [.Name "sells" p2, .Name "near" p3, .Name "price" p4] _))) _ _ _
  refine Calls.spliced_cons (wpAny_Name (wpAny_loadName_free rfl rfl hcb (cell1 hib) ?_))
  show wpAny _ _ (spliced ((false, eval (.Name "sells" p2) _) :: backTo p5 (starEach [.Name "near" p3, .Name "price" p4] _))) _ _ _
  refine Calls.spliced_cons (wpAny_Name (wpAny_loadName_free rfl rfl hcs (cell1 his) ?_))
  show wpAny _ _ (spliced ((false, eval (.Name "near" p3) _) :: backTo p5 (starEach [.Name "price" p4] _))) _ _ _
  refine Calls.spliced_cons (wpAny_Name (wpAny_loadName_free rfl rfl hcn (cell1 hin) ?_))
  show wpAny _ _ (spliced ((false, eval (.Name "price" p4) _) :: backTo p5 [])) _ _ _
  refine Calls.spliced_cons (wpAny_Name (wpAny_loadName_local (v := u) rfl rfl hns rfl ?_))
  refine Calls.spliced_nil ⟨I1.kIn, ?_⟩
  have r4 : Vals [vb, vs, vn, v] [ub, us, un, u] := .cons rb (.cons rs (.cons rn (.cons rv .nil)))
  refine wpAny_call (codeAny_mono (F.run (A.deeper (PySem.W.envX qual rkScope s.heap.objs.size f (.ref c') cl)) (PySem.W.envX qual rkScope s.heap.objs.size f (.ref c') cl :: X.stack) _ H ⟨[ub, us, un, u], []⟩ [ub, us, un, u] [vb, vs, vn, v] Q E (hr.deeper _) (I.env1 (by show Option.map _ A.frames = _; rw [hA]; rfl) hk₁ (show ScopeKind.function ≠ ScopeKind.module by decide) rfl hns _) (hb _ [ub, us, un, u] I1.kIn rfl) r4 h) fun r s' hq => ?_)
  cases r with
  | error e => exact absurd hq (hno _ _ _ _ _)
  | ok fl =>
    cases fl with
    | ret x => exact I.after1 hk₁ rfl hq
    | next => exact False.elim hq
    | brk => exact False.elim hq
    | cont => exact False.elim hq
end
end L2

/-! ## all that a call wants: sets, the lambda as a key; the table of a code grows -/
namespace L2
open PySem PySem.Spec PySem.Calls PyProof.Rows
section
variable {X : Cx} {pins : List (Addr × Obj)} {σ : St} {H : Hp} {s : Shared} {h' : Heap}
/-- a code table that grew -/
theorem Inv.grownT {T : Addr} {ps more : Array Value} {t' : Nat} (I : Inv X pins σ H s) (hT : H T = some (.tbl ps)) (k : ∀ b o, b ≠ T → s.heap.get? b = some o → h'.get? b = some o) (hn : h'.get? T = some (PySem.W.tabObj (ps ++ more))) :
    Inv X pins σ (upd H T (.tbl (ps ++ more))) { s with heap := h', toks := t' } := by
  have ne : ∀ b u, H b = some u → u ≠ .tbl ps → b ≠ T := fun b u e d z => by
    rw [z, hT] at e
    exact d (Option.some.inj e).symm
  refine I.un ⟨fun b o e n _ _ => k b o (fun z => by rw [z, hT] at n; cases n) e, fun b o e n _ _ => ⟨o.slots, k b o (fun z => by rw [z, hT] at n; cases n) e⟩, fun b o e n _ => ?_, fun b o e _ => ?_, fun b xs e => ?_, fun b o u e => ?_, fun b qs e => ?_⟩ fun b u e => ?_
  · rw [upd_ne (fun z => by rw [z, hT] at n; cases n)]; exact n
  · by_cases z : b = T
    · exact ⟨_, by rw [z]; exact hn⟩
    · exact ⟨o, k b o z e⟩
  · rw [upd_ne (ne b _ e fun z => nomatch z)]; exact e
  · rw [upd_ne (ne b _ e fun z => nomatch z)]; exact e
  · by_cases z : b = T
    · rw [z, hT] at e
      cases e
      exact ⟨more, by rw [z, upd_same]⟩
    · exact ⟨#[], by rw [upd_ne z, e]; simp⟩
  · by_cases z : b = T
    · rw [z, upd_same] at e
      cases e
      rw [z]
      exact hn
    · rw [upd_ne z] at e
      refine (I.hok b u e).stay (fun c v hc q => k c v (fun y => ?_) q) (fun c q => ?_) fun c xs q => ?_
      · rcases hc with hc | hc
        · exact z (hc ▸ y)
        · exact ne c _ hc (fun z => nomatch z) y
      · rw [upd_ne (ne c _ q fun z => nomatch z)]; exact q
      · rw [upd_ne (ne c _ q fun z => nomatch z)]; exact q
end
end L2

/-! ## min(prices, key=lambda price: rank_of(buys, sells, near, price)) as a value -/
namespace L2
open PySem PySem.Spec PySem.Calls PyProof.Rows
theorem lexLt_tr : ∀ (a b c : List Int), a.length = b.length → b.length = c.length → HT.lexLt a b = false → HT.lexLt b c = false → HT.lexLt a c = false
  | [], [], [], _, _, _, _ => rfl
  | x :: a, y :: b, z :: c, h1, h2, h3, h4 => by
    rw [HT.lexLt_cons] at h3 h4 ⊢
    by_cases e1 : x = y
    · subst e1
      rw [if_pos rfl] at h3
      by_cases e2 : x = z
      · subst e2
        rw [if_pos rfl] at h4 ⊢
        exact lexLt_tr a b c (by simpa using h1) (by simpa using h2) h3 h4
      · rw [if_neg e2] at h4 ⊢
        exact h4
    · rw [if_neg e1] at h3
      have l1 := of_decide_eq_false h3
      by_cases e2 : y = z
      · subst e2
        rw [if_neg e1]
        exact h3
      · rw [if_neg e2] at h4
        have l2 := of_decide_eq_false h4
        rw [if_neg (by omega)]
        exact decide_eq_false (by omega)
theorem lexLt_irr : ∀ (a : List Int), HT.lexLt a a = false
  | [] => rfl
  | x :: a => by rw [HT.lexLt_cons, if_pos rfl]; exact lexLt_irr a
theorem lexLt_asy : ∀ (a b : List Int), HT.lexLt a b = true → HT.lexLt b a = false
  | [], [], h => by cases h
  | [], y :: b, _ => rfl
  | x :: a, [], h => by cases h
  | x :: a, y :: b, h => by
    rw [HT.lexLt_cons] at h ⊢
    by_cases e : x = y
    · subst e
      rw [if_pos rfl] at h ⊢
      exact lexLt_asy a b h
    · rw [if_neg e] at h
      have := of_decide_eq_true h
      rw [if_neg (fun z => e z.symm)]
      exact decide_eq_false (by omega)
theorem argBestK_le (bt : Nat → Nat → Bool) : ∀ k, argBest bt k ≤ k
  | 0 => Nat.le_refl _
  | k + 1 => by
    show (if bt (k + 1) (argBest bt k) then k + 1 else argBest bt k) ≤ k + 1
    have := argBestK_le bt k
    split <;> omega
theorem argBestK_best {bt : Nat → Nat → Bool} (irr : ∀ a, bt a a = false) (tr : ∀ a b c, bt a b = false → bt b c = false → bt a c = false) (asy : ∀ a b, bt a b = true → bt b a = false) : ∀ k i, i ≤ k → bt i (argBest bt k) = false
  | 0, i, hi => by obtain rfl : i = 0 := (by omega); exact irr _
  | k + 1, i, hi => by
    show bt i (if bt (k + 1) (argBest bt k) then k + 1 else argBest bt k) = false
    cases c : bt (k + 1) (argBest bt k) with
    | true =>
      rw [if_pos rfl]
      by_cases e : i = k + 1
      · rw [e]; exact irr _
      · exact tr _ _ _ (argBestK_best irr tr asy k i (by omega)) (asy _ _ c)
    | false =>
      rw [if_neg Bool.false_ne_true]
      by_cases e : i = k + 1
      · rw [e]; exact c
      · exact argBestK_best irr tr asy k i (by omega)
section
variable {prog : Program} {w : World} {A : Around} {R : Result → Shared → Prop}
/-- the loop of min with a key, the things as they come: J at its head (j + 1 seen, the best one is iv, its key bv), M when the next one, nv, is there, N when its key, v, is there, D when no more comes -/
theorem minV_loop {I S : Addr} {f : Addr} (n : Nat) (bt : Nat → Nat → Bool) (J : Nat → Value → Value → Shared → Prop) (M : Nat → Value → Value → Value → Shared → Prop) (N : Nat → Value → Value → Value → Value → Shared → Prop) (D : Value → Value → Shared → Prop)
    (seqJ : ∀ j iv bv s, J j iv bv s → ∃ c, s.heap.get? S = some { cls := .type "list", dict := none, data := .seq #[iv, bv] c, slots := #[] })
    (hnext : ∀ j iv bv s (Q : Option Value → Shared → Prop) E, j + 1 < n → J j iv bv s → (∀ nv s', M j iv bv nv s' → Q (some nv) s') → wpAny (model prog w) A.in1 (pyNext (.ref I)) Q E s)
    (hkey : ∀ j iv bv nv s (Q : Value → Shared → Prop) E, j + 1 < n → M j iv bv nv s → (∀ v s', N j iv bv nv v s' → Q v s') → wpAny (model prog w) A.in1 (call (.ref f) [nv]) Q E s)
    (seqN : ∀ j iv bv nv v s, N j iv bv nv v s → ∃ c, s.heap.get? S = some { cls := .type "list", dict := none, data := .seq #[iv, bv] c, slots := #[] })
    (hcmp : ∀ j iv bv nv v s (Q : Value → Shared → Prop) E, N j iv bv nv v s → Q (.bool (bt (j + 1) (argBest bt j))) s → wpAny (model prog w) A.in1 (richCompare .Lt v bv) Q E s)
    (hup : ∀ j iv bv nv v s, N j iv bv nv v s → bt (j + 1) (argBest bt j) = true → J (j + 1) nv v { s with heap := s.heap.update S (Obj.mapSeq fun _ => #[nv, v]) })
    (hkp : ∀ j iv bv nv v s, N j iv bv nv v s → bt (j + 1) (argBest bt j) = false → J (j + 1) iv bv s)
    (hdone : ∀ j iv bv s (Q : Option Value → Shared → Prop) E, j + 1 = n → J j iv bv s → (∀ s', D iv bv s' → Q none s') → wpAny (model prog w) A.in1 (pyNext (.ref I)) Q E s)
    (hend : ∀ iv bv s, D iv bv s → (∃ c, s.heap.get? S = some { cls := .type "list", dict := none, data := .seq #[iv, bv] c, slots := #[] }) ∧ R (.ok (.ret iv)) { s with heap := s.heap.update S (Obj.mapSeq fun _ => #[]) }) :
    ∀ (k j : Nat) (iv bv : Value) (s : Shared), n = j + 1 + k → J j iv bv s → codeAny (model prog w) A (.builtin "min.loop" ⟨[.ref I, .ref f, .ref S], []⟩) R s := by
  have nm : (toString "min" ++ toString ".loop" : String) = "min.loop" := by decide
  intro k
  induction k with
  | zero =>
    intro j iv bv s hj hJ
    obtain ⟨c, hS⟩ := seqJ j iv bv s hJ
    refine codeAny_builtin F.entry_min_loop ?_
    rw [Around.under_plainId F.plain_min_loop _]
    show wpAny _ A.in1 (seqItems? (.ref S) >>= _) _ _ s
    refine wpAny_bind (wpAny_seqItems hS rfl ?_)
    show wpAny _ A.in1 (tryCatch (pyNext (.ref I)) _ >>= _) _ _ s
    refine wpAny_bind (wpAny_tryCatch (hdone j iv bv s _ _ (by omega) hJ fun s' d => ?_))
    obtain ⟨⟨c', hS'⟩, r⟩ := hend iv bv s' d
    show wpAny _ A.in1 (updateSeq S (fun _ => #[]) >>= _) _ _ _
    exact wpAny_bind (wpAny_updateSeq hS' rfl (wpAny_bind (wpAny_letGo (wpAny_pure r))))
  | succ k ih =>
    intro j iv bv s hj hJ
    obtain ⟨c, hS⟩ := seqJ j iv bv s hJ
    refine codeAny_builtin F.entry_min_loop ?_
    rw [Around.under_plainId F.plain_min_loop _]
    show wpAny _ A.in1 (seqItems? (.ref S) >>= _) _ _ s
    refine wpAny_bind (wpAny_seqItems hS rfl ?_)
    show wpAny _ A.in1 (tryCatch (pyNext (.ref I)) _ >>= _) _ _ s
    refine wpAny_bind (wpAny_tryCatch (hnext j iv bv s _ _ (by omega) hJ fun nv s1 hM => ?_))
    show wpAny _ A.in1 (tryCatch (holding _ (call (.ref f) [nv])) _ >>= _) _ _ _
    refine wpAny_bind (wpAny_tryCatch (wpAny_holding (hkey j iv bv nv s1 _ _ (by omega) hM fun v s2 hN => ?_)))
    obtain ⟨c2, hS2⟩ := seqN j iv bv nv v s2 hN
    show wpAny _ A.in1 (tryCatch (holding _ (richCompare .Lt v bv >>= _)) _ >>= _) _ _ _
    refine wpAny_bind (wpAny_tryCatch (wpAny_holding (wpAny_bind (hcmp j iv bv nv v s2 _ _ hN ?_))))
    refine wpAny_bind (wpAny_holding (wpAny_truthy_bool ?_))
    refine wpAny_bind (wpAny_letGo (wpAny_pure ?_))
    cases lt : bt (j + 1) (argBest bt j) with
    | true =>
      rw [if_pos rfl]
      refine wpAny_bind (wpAny_updateSeq hS2 rfl (wpAny_bind (wpAny_letGo ?_)))
      rw [nm]
      exact wpAny_pure ⟨plainId_quiet F.plain_min_loop _, ih (j + 1) nv v _ (by omega) (hup j iv bv nv v s2 hN lt)⟩
    | false =>
      rw [if_neg Bool.false_ne_true]
      refine wpAny_bind (wpAny_letGo ?_)
      rw [nm]
      exact wpAny_pure ⟨plainId_quiet F.plain_min_loop _, ih (j + 1) iv bv _ (by omega) (hkp j iv bv nv v s2 hN lt)⟩
/-- the first turn: best is empty -/
theorem minV_first {I S : Addr} {f : Addr} (J0 : Shared → Prop) (M0 : Value → Shared → Prop) (N0 : Value → Value → Shared → Prop)
    (seqJ : ∀ s, J0 s → ∃ c, s.heap.get? S = some { cls := .type "list", dict := none, data := .seq #[] c, slots := #[] })
    (hnext : ∀ s (Q : Option Value → Shared → Prop) E, J0 s → (∀ nv s', M0 nv s' → Q (some nv) s') → wpAny (model prog w) A.in1 (pyNext (.ref I)) Q E s)
    (hkey : ∀ nv s (Q : Value → Shared → Prop) E, M0 nv s → (∀ v s', N0 nv v s' → Q v s') → wpAny (model prog w) A.in1 (call (.ref f) [nv]) Q E s)
    (seqN : ∀ nv v s, N0 nv v s → ∃ c, s.heap.get? S = some { cls := .type "list", dict := none, data := .seq #[] c, slots := #[] })
    (hloop : ∀ nv v s, N0 nv v s → codeAny (model prog w) A (.builtin "min.loop" ⟨[.ref I, .ref f, .ref S], []⟩) R { s with heap := s.heap.update S (Obj.mapSeq fun _ => #[nv, v]) })
    {s : Shared} (hJ : J0 s) : codeAny (model prog w) A (.builtin "min.loop" ⟨[.ref I, .ref f, .ref S], []⟩) R s := by
  have nm : (toString "min" ++ toString ".loop" : String) = "min.loop" := by decide
  obtain ⟨c, hS⟩ := seqJ s hJ
  refine codeAny_builtin F.entry_min_loop ?_
  rw [Around.under_plainId F.plain_min_loop _]
  show wpAny _ A.in1 (seqItems? (.ref S) >>= _) _ _ s
  refine wpAny_bind (wpAny_seqItems hS rfl ?_)
  show wpAny _ A.in1 (tryCatch (pyNext (.ref I)) _ >>= _) _ _ s
  refine wpAny_bind (wpAny_tryCatch (hnext s _ _ hJ fun nv s1 hM => ?_))
  show wpAny _ A.in1 (tryCatch (holding _ (call (.ref f) [nv])) _ >>= _) _ _ _
  refine wpAny_bind (wpAny_tryCatch (wpAny_holding (hkey nv s1 _ _ hM fun v s2 hN => ?_)))
  obtain ⟨c2, hS2⟩ := seqN nv v s2 hN
  show wpAny _ A.in1 (updateSeq S (fun _ => #[nv, v]) >>= _) _ _ _
  refine wpAny_bind (wpAny_updateSeq hS2 rfl ?_)
  rw [nm]
  exact wpAny_pure ⟨plainId_quiet F.plain_min_loop _, hloop nv v s2 hN⟩
end
section
variable {X : Cx} {pins : List (Addr × Obj)} {σ : St} {H : Hp} {s : Shared} {a : Addr} {o : Obj}
theorem Inv.pin1 (I : Inv X pins σ H s) (h : s.heap.get? a = some o) (hn : H a = none) (hL : a ≠ X.env.locals) (hf : a ∉ X.fs) (hd : ∀ v, o.data ≠ .cell v) : Inv X ((a, o) :: pins) σ H s :=
  I.pins_of fun p hp => by
    rcases List.mem_cons.mp hp with e | hp
    · rw [e]; exact ⟨h, hn, hL, hf, hd⟩
    · exact I.pin p (List.mem_append_right _ hp)
theorem Inv.unpin (I : Inv X ((a, o) :: pins) σ H s) : Inv X pins σ H s := I.pins_of fun p hp => I.pin p (List.mem_append_right _ (List.mem_cons_of_mem _ hp))
theorem Inv.pinAt1 (I : Inv X ((a, o) :: pins) σ H s) : s.heap.get? a = some o ∧ H a = none ∧ a ≠ X.env.locals ∧ a ∉ X.fs ∧ ∀ v, o.data ≠ .cell v := I.pin (a, o) (List.mem_append_right _ List.mem_cons_self)
/-- a record of ours, made behind the state s: it stands apart from all that was there -/
structure Ours (X : Cx) (pins : List (Addr × Obj)) (a : Addr) : Prop where
  n0 : X.s₀.heap.objs.size ≤ a
  nL : a ≠ X.env.locals
  nf : a ∉ X.fs
  nc : ∀ x c, X.env.cells.lookup x = some c → c ≠ a
  np : ∀ p ∈ X.pn ++ pins, p.1 ≠ a
theorem Inv.ours (I : Inv X pins σ H s) (h : s.heap.objs.size ≤ a) : Ours X pins a where
  n0 := Nat.le_trans I.sz h
  nL := fun z => absurd I.lt (by rw [← z]; exact Nat.not_lt.mpr h)
  nf := I.nofs h
  nc := fun x c e z => by
    obtain ⟨v, o, ho, _⟩ := I.cell x c e
    exact absurd (Heap.lt_size ho) (by rw [z]; exact Nat.not_lt.mpr h)
  np := fun p hp z => by
    obtain ⟨e, _⟩ := I.pin p hp
    exact absurd (Heap.lt_size e) (by rw [z]; exact Nat.not_lt.mpr h)
theorem Ours.cons (x : Ours X pins a) {b : Addr} (h : b ≠ a) : Ours X ((b, o) :: pins) a := ⟨x.n0, x.nL, x.nf, x.nc, fun p hp => by
  rcases List.mem_append.mp hp with e | e
  · exact x.np p (List.mem_append_left _ e)
  · rcases List.mem_cons.mp e with e | e
    · rw [e]; exact h
    · exact x.np p (List.mem_append_right _ e)⟩
/-- a record of ours has turned, nobody pins it -/
theorem Inv.turnO {h' : Heap} {t' : Nat} (I : Inv X pins σ H s) (x : Ours X pins a) (hn : H a = none) (k : ∀ b o, b ≠ a → s.heap.get? b = some o → h'.get? b = some o) : Inv X pins σ H { s with heap := h', toks := t' } :=
  I.turned k hn x.nL (.inr x.n0) x.nc x.np
end
section
variable {X : Cx} {pins : List (Addr × Obj)} {σ : St}
/-- what a name of the cells stands for, in any state of the body -/
theorem Inv.cellAt {H : Hp} {s : Shared} {i : Nat} {x : Str} {v : V} {c : Addr} (I : Inv X pins σ H s) (hN : X.N[i]? = some x) (hk : X.env.kindOf x = some .cell) (hs : σ[i]? = some (some v)) (hc : X.env.cells.lookup x = some c) : ∃ u, RelV v u ∧ s.heap.IsCell c (some u) := by
  obtain ⟨m, hm, hlk⟩ := I.loc
  obtain ⟨u, ru, lu⟩ := hlk i x v hN hs (.inr (.inl hk))
  refine ⟨u, ru, ?_⟩
  rcases lu with ⟨z, _⟩ | ⟨_, c2, e2, z⟩
  · rw [hk] at z; cases z
  · rw [hc] at e2
    cases e2
    exact z
/-- the state of the loop: the iterator at ia stands at j, best at sa holds seq, the lambda lies at f -/
def MSt (X : Cx) (pins : List (Addr × Obj)) (σ : St) (H : Hp) (ia sa f p : Addr) (oF : Obj) (j : Nat) (seq : Array Value) (H' : Hp) (s' : Shared) : Prop :=
  ∃ (oi : Obj) (c : Nat), Inv X ((ia, oi) :: (sa, { cls := .type "list", dict := none, data := .seq seq c, slots := #[] }) :: (f, oF) :: pins) σ H' s' ∧ Same H H' ∧ oi.cls = .type "list_iterator" ∧ oi.data = .fields #[.ref p, .int j 0]
section
variable {H : Hp} {ia sa f p : Addr} {oF : Obj} {ns : List Int}
theorem MSt.best {j : Nat} {seq : Array Value} {H' : Hp} {s' : Shared} (h : MSt X pins σ H ia sa f p oF j seq H' s') : ∃ c, s'.heap.get? sa = some { cls := .type "list", dict := none, data := .seq seq c, slots := #[] } := by
  obtain ⟨oi, c, I, _⟩ := h
  exact ⟨c, I.unpin.pinAt1.1⟩
theorem MSt.next {A : Around} {j : Nat} {seq : Array Value} {H' : Hp} {s' : Shared} {Q : Option Value → Shared → Prop} {E : Value → Shared → Prop} (hh : A.handled = none) (oI : Ours X pins ia) (nS : sa ≠ ia) (nf : f ≠ ia) (np : p ≠ ia) (hsq : SqL X.K H p (ns.map V.int)) (hj : j < ns.length)
    (h : MSt X pins σ H ia sa f p oF j seq H' s') (hQ : ∀ tk s'', MSt X pins σ H ia sa f p oF (j + 1) seq H' s'' → Q (some (.int (ns.getD j 0) tk)) s'') : wpAny (model X.prog X.w) A (pyNext (.ref ia)) Q E s' := by
  obtain ⟨oi, c, I, sm, c1, d1⟩ := h
  obtain ⟨its, r, pl, _⟩ := I.list (sm.seq hsq)
  have W := Walks.list (prog := X.prog) (w := X.w) (A := A) hh ia p np its.toArray
  have hl := r.length
  rw [List.length_map] at hl
  refine W.item j s' _ _ (by rw [List.size_toArray]; omega) ⟨⟨oi, I.pinAt1.1, c1, d1⟩, pl.isList⟩ fun v h' tk hP st' hkk => ?_
  obtain ⟨tv, rfl⟩ := item_int r hP
  have I1 := I.unpin.turnO (h' := h') (t' := tk) ((oI.cons nf).cons nS) I.pinAt1.2.1 fun b o hb e => hkk b o (by simpa using hb) e
  obtain ⟨⟨oi', e, c2, d2⟩, _⟩ := st'
  exact hQ tv _ ⟨oi', c, I1.pin1 e I.pinAt1.2.1 oI.nL oI.nf (fun v z => by rw [d2] at z; cases z), sm, c2, d2⟩
theorem MSt.done {A : Around} {seq : Array Value} {H' : Hp} {s' : Shared} {Q : Option Value → Shared → Prop} {E : Value → Shared → Prop} (hh : A.handled = none) (oI : Ours X pins ia) (nS : sa ≠ ia) (nf : f ≠ ia) (np : p ≠ ia) (hsq : SqL X.K H p (ns.map V.int))
    (h : MSt X pins σ H ia sa f p oF ns.length seq H' s') (hQ : ∀ s'', (∃ c, Inv X ((sa, { cls := .type "list", dict := none, data := .seq seq c, slots := #[] }) :: (f, oF) :: pins) σ H' s'') → Same H H' → Q none s'') : wpAny (model X.prog X.w) A (pyNext (.ref ia)) Q E s' := by
  obtain ⟨oi, c, I, sm, c1, d1⟩ := h
  obtain ⟨its, r, pl, _⟩ := I.list (sm.seq hsq)
  have W := Walks.list (prog := X.prog) (w := X.w) (A := A) hh ia p np its.toArray
  have hl := r.length
  rw [List.length_map] at hl
  refine W.done s' _ _ ⟨⟨oi, I.pinAt1.1, c1, by rw [d1, hl, List.size_toArray]⟩, pl.isList⟩ fun h' tk hkk => ?_
  exact hQ _ ⟨c, I.unpin.turnO (h' := h') (t' := tk) ((oI.cons nf).cons nS) I.pinAt1.2.1 fun b o hb e => hkk b o (by simpa using hb) e⟩ sm
theorem MSt.up {j : Nat} {seq seq' : Array Value} {H' : Hp} {s' : Shared} (oS : Ours X pins sa) (nS : ia ≠ sa) (nf : f ≠ sa) (h : MSt X pins σ H ia sa f p oF j seq H' s') :
    MSt X pins σ H ia sa f p oF j seq' H' { s' with heap := s'.heap.update sa (Obj.mapSeq fun _ => seq') } := by
  obtain ⟨oi, c, I, sm, c1, d1⟩ := h
  have eS := I.unpin.pinAt1
  have eI := I.pinAt1
  have k : ∀ b o, b ≠ sa → s'.heap.get? b = some o → (s'.heap.update sa (Obj.mapSeq fun _ => seq')).get? b = some o := fun b o hb e => (Heap.get?_update_other _ _ (Ne.symm hb)).trans e
  have I1 := I.unpin.unpin.turnO (h' := s'.heap.update sa (Obj.mapSeq fun _ => seq')) (t' := s'.toks) (oS.cons nf) eS.2.1 k
  have I2 := I1.pin1 (o := { cls := .type "list", dict := none, data := .seq seq' _, slots := #[] }) (Heap.get?_update_self _ eS.1 rfl) eS.2.1 oS.nL oS.nf (fun v z => by cases z)
  exact ⟨oi, _, I2.pin1 (k _ _ nS eI.1) eI.2.1 eI.2.2.1 eI.2.2.2.1 eI.2.2.2.2, sm, c1, d1⟩
end
theorem minK_run {k : Nat} {f fr p c' cb cs cn : Addr} {fd : FuncData} {sp : Sp} {CX : CXT} {qual : Str} {pa p0 p1 p2 p3 p4 p5 : Pos} {pm ctv : Value} {vb vs vn : V} {ib is im : Nat} {cl : List (Str × Addr)} {H : Hp} {s : Shared} {Q : VK} {E : XK} {ns : List Int} {g : Int → List Int}
    (F : FnOk X.prog X.w X.K X.mg X.base CX k fr fd ["buys", "sells", "near", "price"] sp) (hb : Binds X.K fd ["buys", "sells", "near", "price"] []) (hr : Room (k + 2) X.A)
    (hno : ∀ env H s e s', ¬ CX (env :: X.stack) H s E e s') (hm : X.mg "rank_of" = some (.ref fr)) (hk : PySem.W.keepIn X.K (.ref fr) = true)
    (I : Inv X pins σ H s)
    (ho : s.heap.get? f = some (PySem.W.kla_obj "<lambda>" qual (rkArgs pa) (rkBody p0 p1 p2 p3 p4 p5) rkScope cl pm c' ctv)) (hfo : Ours X pins f) (hfn : H f = none)
    (hcode : H c' = some (.ext fun h => h.CodeRec (.ref c') qual))
    (Nb : X.N[ib]? = some ("buys" : Str)) (kb : X.env.kindOf "buys" = some .cell) (sb : σ[ib]? = some (some vb)) (xb : X.env.cells.lookup ("buys" : Str) = some cb) (lb : cl.lookup ("buys" : Str) = some cb)
    (Ns : X.N[is]? = some ("sells" : Str)) (ks : X.env.kindOf "sells" = some .cell) (ss : σ[is]? = some (some vs)) (xs : X.env.cells.lookup ("sells" : Str) = some cs) (ls : cl.lookup ("sells" : Str) = some cs)
    (Nn : X.N[im]? = some ("near" : Str)) (kn : X.env.kindOf "near" = some .cell) (sn : σ[im]? = some (some vn)) (xn : X.env.cells.lookup ("near" : Str) = some cn) (ln : cl.lookup ("near" : Str) = some cn)
    (hsq : SqL X.K H p (ns.map V.int)) (hz : 0 < ns.length) (hg : ∀ n, (g n).length = 4)
    (hsp : ∀ H' n, Same H H' → n ∈ ns → sp [vb, vs, vn, .int n] H' (fun v H'' => Same H' H'' ∧ ∃ t, v = .ref t ∧ H'' t = some (.tup ((g n).map V.int))) E)
    (hQ : ∀ H' n, Same H H' → n ∈ ns → (∀ m ∈ ns, HT.lexLt (g m) (g n) = false) → Q (.int n) H') :
    wpAny (model X.prog X.w) X.A (call (.builtin "min") [.ref p] [(Str.ofString "key", .ref f)]) (EP X pins σ Q) X.xe s := by
  obtain ⟨its0, r0, pl0, hsz⟩ := I.list hsq
  have hlt := list_lt pl0.isList
  have hh : X.A.in1.handled = none := hr.in1.hd
  refine min_startK pl0.isList ?_
  have oI : Ours X pins s.heap.objs.size := I.ours (Nat.le_refl _)
  have oS : Ours X pins (s.heap.objs.size + 1) := I.ours (Nat.le_succ _)
  have fI : f ≠ s.heap.objs.size := Nat.ne_of_lt (Heap.lt_size ho)
  have fS : f ≠ s.heap.objs.size + 1 := Nat.ne_of_lt (Nat.lt_succ_of_lt (Heap.lt_size ho))
  have pI : p ≠ s.heap.objs.size := Nat.ne_of_lt hlt
  have SI : s.heap.objs.size + 1 ≠ s.heap.objs.size := Nat.succ_ne_self _
  have HI : H s.heap.objs.size = none := I.hok.fresh (Nat.le_refl _)
  have HS : H (s.heap.objs.size + 1) = none := I.hok.fresh (Nat.le_succ _)
  have st0 : MSt X pins σ H s.heap.objs.size (s.heap.objs.size + 1) f p (PySem.W.kla_obj "<lambda>" qual (rkArgs pa) (rkBody p0 p1 p2 p3 p4 p5) rkScope cl pm c' ctv) 0 #[] H
      { s with heap := (s.heap.push { cls := .type "list_iterator", data := .fields #[.ref p, .int 0 0] }).push { cls := .type "list", data := .seq #[] } } := by
    have e1 : (s.heap.push { cls := .type "list_iterator", data := .fields #[.ref p, .int 0 0] }).objs.size = s.heap.objs.size + 1 := Heap.size_push ..
    have kp : ∀ b o, s.heap.get? b = some o → ((s.heap.push { cls := .type "list_iterator", data := .fields #[.ref p, .int 0 0] }).push { cls := .type "list", data := .seq #[] }).get? b = some o := fun b o e => Heap.get?_push_of_some _ (Heap.get?_push_of_some _ e)
    have I0 := I.kept (t' := s.toks) kp
    have I1 := I0.pin1 (kp _ _ ho) hfn hfo.nL hfo.nf (fun v z => by cases z)
    have I2 := I1.pin1 (a := s.heap.objs.size + 1) (o := { cls := .type "list", dict := none, data := .seq #[] 0, slots := #[] }) (by rw [← e1]; exact Heap.get?_push_size _ rfl) HS oS.nL oS.nf (fun v z => by cases z)
    exact ⟨_, 0, I2.pin1 (Heap.get?_push_of_some _ (Heap.get?_push_size _ rfl)) HI oI.nL oI.nf (fun v z => by cases z), Same.refl _, rfl, rfl⟩
  generalize s.heap.objs.size + 1 = sa at oS fS SI HS st0 ⊢
  generalize s.heap.objs.size = ia at oI fI pI SI HI st0 ⊢
  generalize ({ s with heap := (s.heap.push { cls := .type "list_iterator", data := .fields #[.ref p, .int 0 0] }).push { cls := .type "list", data := .seq #[] } } : Shared) = s1 at st0 ⊢
  have key : ∀ {j : Nat} {seq : Array Value} {H' : Hp} {s' : Shared} {n : Int} {tk : Tok} {Q' : Value → Shared → Prop} {E' : Value → Shared → Prop}, n ∈ ns → MSt X pins σ H ia sa f p (PySem.W.kla_obj "<lambda>" qual (rkArgs pa) (rkBody p0 p1 p2 p3 p4 p5) rkScope cl pm c' ctv) j seq H' s' →
      (∀ t H'' s'', MSt X pins σ H ia sa f p (PySem.W.kla_obj "<lambda>" qual (rkArgs pa) (rkBody p0 p1 p2 p3 p4 p5) rkScope cl pm c' ctv) j seq H'' s'' → Same H' H'' → H'' t = some (.tup ((g n).map V.int)) → Q' (.ref t) s'') →
      wpAny (model X.prog X.w) X.A.in1 (call (.ref f) [.int n tk]) Q' E' s' := by
    intro j seq H' s' n tk Q' E' hn st hq
    obtain ⟨oi, c, I', sm, c1, d1⟩ := st
    obtain ⟨ub, rb, ib'⟩ := I'.cellAt Nb kb sb xb
    obtain ⟨us, rs, is'⟩ := I'.cellAt Ns ks ss xs
    obtain ⟨un, rn, in'⟩ := I'.cellAt Nn kn sn xn
    refine thn (rk_call (v := .int n) F hb hr.in1 I.ok.frames hno hm hk I' I'.unpin.unpin.pinAt1.1 (I'.hok c' _ (sm _ _ hcode)).1 lb ls ln ib' is' in' rb rs rn ⟨tk, rfl⟩ (hsp H' n sm hn)) fun u s'' z => ?_
    obtain ⟨v, H'', I'', ru, sm2, t, e, ht⟩ := z
    subst e
    cases ru
    exact hq t H'' s'' ⟨oi, c, I'', sm.trans sm2, c1, d1⟩ sm2 ht
  generalize PySem.W.kla_obj "<lambda>" qual (rkArgs pa) (rkBody p0 p1 p2 p3 p4 p5) rkScope cl pm c' ctv = oF at st0 key
  have nat_mem : ∀ j, j < ns.length → ns.getD j 0 ∈ ns := fun j hj => by
    rw [List.getD_eq_getElem?_getD, List.getElem?_eq_getElem hj]; exact List.getElem_mem hj
  let bt : Nat → Nat → Bool := fun i j => HT.lexLt (g (ns.getD i 0)) (g (ns.getD j 0))
  have bb : ∀ i, i < ns.length → bt i (argBest bt (ns.length - 1)) = false := fun i hi => argBestK_best (bt := bt) (fun a => lexLt_irr _) (fun a b c h1 h2 => lexLt_tr _ _ _ (by rw [hg, hg]) (by rw [hg, hg]) h1 h2) (fun a b h => lexLt_asy _ _ h) _ i (by omega)
  have bl : argBest bt (ns.length - 1) < ns.length := by have := argBestK_le bt (ns.length - 1); omega
  have cmp : ∀ {H' : Hp} {s' : Shared} {t t' : Addr} {m n : Int} {j : Nat} {seq : Array Value} {Q' : Value → Shared → Prop} {E' : Value → Shared → Prop}, MSt X pins σ H ia sa f p oF j seq H' s' → H' t = some (.tup ((g m).map V.int)) → H' t' = some (.tup ((g n).map V.int)) → Q' (.bool (HT.lexLt (g m) (g n))) s' →
      wpAny (model X.prog X.w) X.A.in1 (richCompare .Lt (.ref t) (.ref t')) Q' E' s' := by
    intro H' s' t t' m n j seq Q' E' st h1 h2 hq
    obtain ⟨oi, c, I', _⟩ := st
    obtain ⟨_, i1, r1, t1⟩ := I'.hok t _ h1
    obtain ⟨_, i2, r2, t2⟩ := I'.hok t' _ h2
    exact HT.lt_tupInts t1 t2 (intsAre_of r1) (intsAre_of r2) hr.in1.units0 hq
  refine minV_first (fun s' => MSt X pins σ H ia sa f p oF 0 #[] H s') (fun nv s' => ∃ tk, nv = .int (ns.getD 0 0) tk ∧ MSt X pins σ H ia sa f p oF 1 #[] H s')
    (fun nv v s' => ∃ tk H' t, nv = .int (ns.getD 0 0) tk ∧ MSt X pins σ H ia sa f p oF 1 #[] H' s' ∧ v = .ref t ∧ H' t = some (.tup ((g (ns.getD 0 0)).map V.int))) (fun s' z => z.best) (fun s' Q' E' z hq => ?_) (fun nv s' Q' E' z hq => ?_) (fun nv v s' z => ?_) (fun nv v s' z => ?_) st0
  · exact z.next hh oI SI fI pI hsq hz fun tk s'' z2 => hq _ _ ⟨tk, rfl, z2⟩
  · obtain ⟨tk, rfl, z⟩ := z
    exact key (nat_mem 0 hz) z fun t H'' s'' z2 _ ht => hq _ _ ⟨tk, H'', t, rfl, z2, rfl, ht⟩
  · obtain ⟨_, _, _, _, z, _⟩ := z
    exact z.best
  obtain ⟨tk0, H0, t0, rfl, z0, rfl, ht0⟩ := z
  refine minV_loop ns.length bt (fun j iv bv s' => ∃ tk H' t, iv = .int (ns.getD (argBest bt j) 0) tk ∧ MSt X pins σ H ia sa f p oF (j + 1) #[iv, bv] H' s' ∧ bv = .ref t ∧ H' t = some (.tup ((g (ns.getD (argBest bt j) 0)).map V.int)))
    (fun j iv bv nv s' => ∃ tk H' t tk', iv = .int (ns.getD (argBest bt j) 0) tk ∧ MSt X pins σ H ia sa f p oF (j + 1 + 1) #[iv, bv] H' s' ∧ bv = .ref t ∧ H' t = some (.tup ((g (ns.getD (argBest bt j) 0)).map V.int)) ∧ nv = .int (ns.getD (j + 1) 0) tk')
    (fun j iv bv nv v s' => ∃ tk H' t tk' t', iv = .int (ns.getD (argBest bt j) 0) tk ∧ MSt X pins σ H ia sa f p oF (j + 1 + 1) #[iv, bv] H' s' ∧ bv = .ref t ∧ H' t = some (.tup ((g (ns.getD (argBest bt j) 0)).map V.int)) ∧ nv = .int (ns.getD (j + 1) 0) tk' ∧ v = .ref t' ∧ H' t' = some (.tup ((g (ns.getD (j + 1) 0)).map V.int)))
    (fun iv bv s' => ∃ tk H' c, iv = .int (ns.getD (argBest bt (ns.length - 1)) 0) tk ∧ Inv X ((sa, { cls := .type "list", dict := none, data := .seq #[iv, bv] c, slots := #[] }) :: (f, oF) :: pins) σ H' s' ∧ Same H H')
    (fun j iv bv s' z => ?_) (fun j iv bv s' Q' E' hj z hq => ?_) (fun j iv bv nv s' Q' E' hj z hq => ?_) (fun j iv bv nv v s' z => ?_) (fun j iv bv nv v s' Q' E' z hq => ?_) (fun j iv bv nv v s' z lt => ?_) (fun j iv bv nv v s' z lt => ?_) (fun j iv bv s' Q' E' hj z hq => ?_) (fun iv bv s' z => ?_)
    (ns.length - 1) 0 _ _ _ (by omega) ⟨tk0, H0, t0, rfl, z0.up oS SI.symm fS, rfl, ht0⟩
  · obtain ⟨_, _, _, _, z, _⟩ := z
    exact z.best
  · obtain ⟨tk, H', t, e1, z, e2, ht⟩ := z
    exact z.next hh oI SI fI pI hsq hj fun tk' s'' z2 => hq _ _ ⟨tk, H', t, tk', e1, z2, e2, ht, rfl⟩
  · obtain ⟨tk, H', t, tk', e1, z, e2, ht, rfl⟩ := z
    exact key (nat_mem _ hj) z fun t' H'' s'' z2 sm ht' => hq _ _ ⟨tk, H'', t, tk', t', e1, z2, e2, sm _ _ ht, rfl, rfl, ht'⟩
  · obtain ⟨_, _, _, _, _, _, z, _⟩ := z
    exact z.best
  · obtain ⟨tk, H', t, tk', t', e1, z, rfl, ht, e3, rfl, ht'⟩ := z
    exact cmp z ht' ht hq
  · obtain ⟨tk, H', t, tk', t', e1, z, e2, ht, e3, e4, ht'⟩ := z
    have e : argBest bt (j + 1) = j + 1 := by show (if bt (j + 1) (argBest bt j) then j + 1 else argBest bt j) = j + 1; rw [lt]; rfl
    refine ⟨tk', H', t', by rw [e]; exact e3, z.up oS SI.symm fS, e4, by rw [e]; exact ht'⟩
  · obtain ⟨tk, H', t, tk', t', e1, z, e2, ht, e3, e4, ht'⟩ := z
    have e : argBest bt (j + 1) = argBest bt j := by show (if bt (j + 1) (argBest bt j) then j + 1 else argBest bt j) = argBest bt j; rw [lt]; rfl
    exact ⟨tk, H', t, by rw [e]; exact e1, z, e2, by rw [e]; exact ht⟩
  · obtain ⟨tk, H', t, e1, z, e2, ht⟩ := z
    rw [hj] at z
    refine z.done hh oI SI fI pI hsq fun s'' ⟨c, I''⟩ sm => hq _ ⟨tk, H', c, ?_, I'', sm⟩
    rw [e1, show ns.length - 1 = j by omega]
  · obtain ⟨tk, H', c, e1, I', sm⟩ := z
    have eS := I'.pinAt1
    refine ⟨⟨c, eS.1⟩, ?_⟩
    have I1 := I'.unpin.turnO (h' := s'.heap.update sa (Obj.mapSeq fun _ => #[])) (t' := s'.toks) (oS.cons fS) eS.2.1 fun b o hb e => (Heap.get?_update_other _ _ (Ne.symm hb)).trans e
    subst e1
    exact ⟨.int _, H', I1.unpin, ⟨tk, rfl⟩, hQ H' _ sm (nat_mem _ bl) fun m hm => by
      obtain ⟨i, hi, rfl⟩ := List.mem_iff_getElem.mp hm
      have := bb i hi
      simp only [bt] at this
      rw [List.getD_eq_getElem?_getD (l := ns) (i := i), List.getElem?_eq_getElem hi] at this
      exact this⟩
end
/-- all but the place T is kept -/
def SameT (T : Addr) (H H' : Hp) : Prop := ∀ b o, b ≠ T → H b = some o → H' b = some o
theorem SameT.trans {T : Addr} {H H1 H2 : Hp} (a : SameT T H H1) (b : SameT T H1 H2) : SameT T H H2 := fun c o n h => b c o n (a c o n h)
theorem SameT.of {T : Addr} {H H' : Hp} (a : Same H H') : SameT T H H' := fun c o _ h => a c o h
/-- the table at T: nothing made yet, or the code for the place lp is there -/
def TabK (qual : Str) (lp : Pos) (T : Addr) (H : Hp) : Prop := ∃ ps, H T = some (.tbl ps) ∧ (ps = #[] ∨ ∃ c', codeAmong lp ps.toList = some (.ref c') ∧ TriplesOk ps.toList ∧ H c' = some (.ext fun h => h.CodeRec (.ref c') qual))
theorem TabK.same {qual : Str} {lp : Pos} {T : Addr} {H H' : Hp} (h : TabK qual lp T H) (s : Same H H') : TabK qual lp T H' := by
  obtain ⟨ps, e, z⟩ := h
  refine ⟨ps, s _ _ e, ?_⟩
  rcases z with z | ⟨c', z1, z2, z3⟩
  · exact .inl z
  · exact .inr ⟨c', z1, z2, s _ _ z3⟩
section
variable {X : Cx} {pins : List (Addr × Obj)} {σ : St} {H : Hp} {s : Shared}
/-- an object that nobody tracked is tracked from now on -/
theorem Inv.trackT {c : Addr} {o : HO} (I : Inv X pins σ H s) (hc : H c = none) (x : Ours X pins c)
    (new : ObjOk X.prog X.w (upd H c o) s.heap c o) : Inv X pins σ (upd H c o) s := by
  have ne : ∀ b u, H b = some u → b ≠ c := fun b u e => ne_of_none e hc
  refine ⟨I.ok, I.os, I.bare, ⟨I.base.keep, I.base.slot, fun b u e n hx => ?_, I.base.there, fun b xs e => ?_, fun b u v e => ?_, fun b ps e => ?_⟩, I.loc, I.cell, ?_, fun x d e => ?_, fun p hp => ?_, fun b u e => ?_, I.len⟩
  · rw [upd_ne (fun z => absurd (Heap.lt_size e) (by rw [z]; exact Nat.not_lt.mpr x.n0))]
    exact I.base.free b u e n hx
  · have z := I.base.tups b xs e
    rw [upd_ne (ne _ _ z)]; exact z
  · have z := I.base.frzs b u v e
    rw [upd_ne (ne _ _ z)]; exact z
  · obtain ⟨more, z⟩ := I.base.tbls b ps e
    exact ⟨more, by rw [upd_ne (ne _ _ z)]; exact z⟩
  · rw [upd_ne (Ne.symm x.nL)]; exact I.free
  · rename_i y
    rw [upd_ne (y.nc x d e)]; exact I.freeC x d e
  · obtain ⟨e, n, r⟩ := I.pin p hp
    exact ⟨e, by rw [upd_ne (x.np p hp)]; exact n, r⟩
  · by_cases z : b = c
    · subst z
      rw [upd_same] at e
      cases e
      exact new
    · rw [upd_ne z] at e
      exact (I.hok b u e).stay (fun _ _ _ q => q) (fun d q => by rw [upd_ne (ne _ _ q)]; exact q) fun d xs q => by rw [upd_ne (ne _ _ q)]; exact q
end
section
variable {X : Cx} {pins : List (Addr × Obj)} {σ : St} {l : Expr} {tl : TA} {p pos : Pos}
def qMinK (K : PySem.W.Frag) (T : Addr) (ib is im : Nat) (qual : Str) (lp : Pos) (sp : Sp) (E : XK) (σ : St) (Q : VK) (x : V) (H : Hp) : Prop :=
  ∃ (p : Addr) (ns : List Int) (g : Int → List Int) (vb vs vn : V), x = .ref p ∧ SqL K H p (ns.map V.int) ∧ 0 < ns.length ∧ (∀ n, (g n).length = 4) ∧ σ[ib]? = some (some vb) ∧ σ[is]? = some (some vs) ∧ σ[im]? = some (some vn) ∧ TabK qual lp T H ∧ p ≠ T ∧
    (∀ H' n, SameT T H H' → n ∈ ns → sp [vb, vs, vn, .int n] H' (fun v H'' => Same H' H'' ∧ ∃ t, v = .ref t ∧ H'' t = some (.tup ((g n).map V.int))) E) ∧
    ∀ H' n, SameT T H H' → TabK qual lp T H' → n ∈ ns → (∀ m ∈ ns, HT.lexLt (g m) (g n) = false) → Q (.int n) H'
def tMinK (K : PySem.W.Frag) (T : Addr) (ib is im : Nat) (qual : Str) (lp : Pos) (sp : Sp) (E : XK) (tl : TA) : TE := fun σ H Q => tl σ H fun vs H1 => ∃ v, vs = [v] ∧ qMinK K T ib is im qual lp sp E σ Q v H1
theorem minK_any {k : Nat} {fr T c : Addr} {fd : FuncData} {sp : Sp} {CX : CXT} {ib is im : Nat} {H : Hp} {s : Shared} {Q : VK} {E : XK} {pa p0 p1 p2 p3 p4 p5 lp : Pos} {us : List Value} {v : V}
    (F : FnOk X.prog X.w X.K X.mg X.base CX k fr fd ["buys", "sells", "near", "price"] sp) (hb : Binds X.K fd ["buys", "sells", "near", "price"] []) (hr : Room (k + 2) X.A)
    (hno : ∀ env H s e s', ¬ CX (env :: X.stack) H s E e s') (hm : X.mg "rank_of" = some (.ref fr)) (hk : PySem.W.keepIn X.K (.ref fr) = true)
    (hcd : X.env.code = .ref c) (hCK : PySem.W.codeHdIn X.K c T = true) (hbm : BM X.mg X.base)
    (Nb : X.N[ib]? = some ("buys" : Str)) (kb : X.env.kindOf "buys" = some .cell) (Ns : X.N[is]? = some ("sells" : Str)) (ks : X.env.kindOf "sells" = some .cell) (Nn : X.N[im]? = some ("near" : Str)) (kn : X.env.kindOf "near" = some .cell)
    (I : Inv X pins σ H s) (rv : Vals [v] us) (h : qMinK X.K T ib is im (X.env.qual ++ "<lambda>") lp sp E σ Q v H) :
    wpAny (model X.prog X.w) X.A (eval (.Lambda (rkArgs pa) (rkBody p0 p1 p2 p3 p4 p5) rkScope lp) X.env) (fun f s2 => wpAny (model X.prog X.w) X.A (call (.builtin "min") us [(Str.ofString "key", f)]) (EP X pins σ Q) X.xe s2) X.xe s := by
  obtain ⟨p, ns, g, vb, vs, vn, rfl, hsq, hz, hg, sb, ss, sn, ⟨ps, hT, hps⟩, pT, hsp, hQ⟩ := h
  obtain ⟨u, rfl, rfl⟩ := vals1 rv
  obtain ⟨cl, hcl, cl1, cl2⟩ := closure_of (scope := rkScope) (env := X.env) fun q hq hk' => I.ok.has q.1 (by
    rcases List.mem_cons.mp hq with e | hq
    · rw [e] at hk'; cases hk'
    · rcases List.mem_cons.mp hq with e | hq
      · rw [e]; exact .inl kb
      · rcases List.mem_cons.mp hq with e | hq
        · rw [e]; exact .inl kn
        · rcases List.mem_cons.mp hq with e | hq
          · rw [e]; exact .inl ks
          · rw [List.mem_singleton.mp hq] at hk'; cases hk')
  obtain ⟨cb, lb⟩ := cl2 "buys" (by decide)
  obtain ⟨cs, ls⟩ := cl2 "sells" (by decide)
  obtain ⟨cn, ln⟩ := cl2 "near" (by decide)
  have xb := cl1 _ _ lb
  have xs := cl1 _ _ ls
  have xn := cl1 _ _ ln
  have hTo : s.heap.get? T = some (PySem.W.tabObj ps) := I.hok T _ hT
  have hgl : s.heap.Ns mainGlobals X.mg := I.ok.mod.glob.keeps I.bk
  have hgT : mainGlobals ≠ T := fun z => by
    obtain ⟨o, es, ep, e, d, _⟩ := hgl
    rw [z, hTo] at e
    cases e
    cases d
  have sqT : ∀ {H' : Hp}, SameT T H H' → SqL X.K H' p (ns.map V.int) := fun {H'} sm => by
    rcases hsq with (h | ⟨o, h⟩) | h
    · exact .inl (.inl (sm _ _ pT h))
    · exact .inl (.inr ⟨o, sm _ _ pT h⟩)
    · exact .inr h
  rcases hps with rfl | ⟨c', hca, htr, hce⟩
  · refine PySem.W.kla_eval rfl (PySem.W.kla_makeFunction (mg := X.mg) hcl I.ok.glob hgl hcd (PySem.W.codeHd_of_K I.kIn hCK) hTo (by constructor) rfl hgT (hbm.at I.bk hTo) fun c' ctv h' tk hx hge hlt hrec htb => ?_)
    have k1 : ∀ b o, b ≠ T → s.heap.get? b = some o → (h'.push (PySem.W.kla_obj "<lambda>" (X.env.qual ++ "<lambda>") (rkArgs pa) (rkBody p0 p1 p2 p3 p4 p5) rkScope cl ((X.mg "__name__").getD .none) c' ctv)).get? b = some o := fun b o n e => Heap.get?_push_of_some _ (hx b o n e)
    have I2 := I.grownT (t' := tk) (more := #[rawInt lp.line, rawInt lp.col, .ref c']) hT k1 (Heap.get?_push_of_some _ htb)
    have hcn : H c' = none := I.hok.fresh hge
    have cT : c' ≠ T := fun z => absurd (Heap.lt_size hTo) (by rw [← z]; exact Nat.not_lt.mpr hge)
    have hrec2 : (h'.push (PySem.W.kla_obj "<lambda>" (X.env.qual ++ "<lambda>") (rkArgs pa) (rkBody p0 p1 p2 p3 p4 p5) rkScope cl ((X.mg "__name__").getD .none) c' ctv)).CodeRec (.ref c') (X.env.qual ++ "<lambda>") := hrec.keeps fun b o e => Heap.get?_push_of_some _ e
    have I3 := I2.trackT (c := c') (o := .ext fun h => h.CodeRec (.ref c') (X.env.qual ++ "<lambda>")) (by rw [upd_ne cT]; exact hcn) (I.ours hge)
      ⟨hrec2, (by obtain ⟨c2, oc, vs, t, e, g, _⟩ := hrec2; cases e; exact ⟨oc, g⟩), fun h1 h2 ⟨c2, oc, vs, t, e, g, z⟩ k => by cases e; exact ⟨c', oc, vs, t, rfl, k _ g, z⟩⟩
    have hfge : s.heap.objs.size ≤ h'.objs.size := Nat.le_trans hge (Nat.le_of_lt hlt)
    have fT : h'.objs.size ≠ T := fun z => absurd (Heap.lt_size hTo) (by rw [← z]; exact Nat.not_lt.mpr hfge)
    have fc : h'.objs.size ≠ c' := fun z => absurd hlt (by rw [z]; exact Nat.lt_irrefl _)
    have hgT2 : upd (upd H T (.tbl (#[] ++ #[rawInt lp.line, rawInt lp.col, .ref c']))) c' (.ext fun h => h.CodeRec (.ref c') (X.env.qual ++ "<lambda>")) T = some (.tbl (#[] ++ #[rawInt lp.line, rawInt lp.col, .ref c'])) := by rw [upd_ne (Ne.symm cT), upd_same]
    have hgc : upd (upd H T (.tbl (#[] ++ #[rawInt lp.line, rawInt lp.col, .ref c']))) c' (.ext fun h => h.CodeRec (.ref c') (X.env.qual ++ "<lambda>")) c' = some (.ext fun h => h.CodeRec (.ref c') (X.env.qual ++ "<lambda>")) := upd_same
    have keep : SameT T H (upd (upd H T (.tbl (#[] ++ #[rawInt lp.line, rawInt lp.col, .ref c']))) c' (.ext fun h => h.CodeRec (.ref c') (X.env.qual ++ "<lambda>"))) := fun b o n e => by
      rw [upd_ne (ne_of_none e hcn), upd_ne n]; exact e
    have hfn : upd (upd H T (.tbl (#[] ++ #[rawInt lp.line, rawInt lp.col, .ref c']))) c' (.ext fun h => h.CodeRec (.ref c') (X.env.qual ++ "<lambda>")) h'.objs.size = none := by
      rw [upd_ne fc, upd_ne fT]; exact I.hok.fresh hfge
    generalize upd (upd H T (.tbl (#[] ++ #[rawInt lp.line, rawInt lp.col, .ref c']))) c' (.ext fun h => h.CodeRec (.ref c') (X.env.qual ++ "<lambda>")) = H3 at I3 hgT2 hgc keep hfn
    refine minK_run (ib := ib) (is := is) (im := im) (cb := cb) (cs := cs) (cn := cn) (vb := vb) (vs := vs) (vn := vn) (ns := ns) (g := g) F hb hr hno hm hk I3 (Heap.get?_push_size _ rfl) (I.ours hfge) hfn hgc Nb kb sb xb lb Ns ks ss xs ls Nn kn sn xn ln (sqT keep) hz hg (fun H' n sm hn => hsp H' n (keep.trans (SameT.of sm)) hn) fun H' n sm hn hbest => ?_
    refine hQ H' n (keep.trans (SameT.of sm)) (TabK.same ⟨_, hgT2, .inr ⟨c', ?_, ?_, hgc⟩⟩ sm) hn hbest
    · simp [codeAmong, rawInt]
    · simp [TriplesOk, rawInt]
  · refine PySem.W.kla_eval rfl (PySem.W.kla_makeFunctionHit (mg := X.mg) hcl I.ok.glob hgl hcd (PySem.W.codeHd_of_K I.kIn hCK) hTo htr hca (hbm.at I.bk hTo) fun ctv h' tk hx hge => ?_)
    have k1 : Kp s.heap (h'.push (PySem.W.kla_obj "<lambda>" (X.env.qual ++ "<lambda>") (rkArgs pa) (rkBody p0 p1 p2 p3 p4 p5) rkScope cl ((X.mg "__name__").getD .none) c' ctv)) := fun b o e => Heap.get?_push_of_some _ (hx b o e)
    have I2 := I.kept (t' := tk) k1
    refine minK_run (ib := ib) (is := is) (im := im) (cb := cb) (cs := cs) (cn := cn) (vb := vb) (vs := vs) (vn := vn) (ns := ns) (g := g) F hb hr hno hm hk I2 (Heap.get?_push_size _ rfl) (I.ours hge) (I.hok.fresh hge) hce Nb kb sb xb lb Ns ks ss xs ls Nn kn sn xn ln hsq hz hg (fun H' n sm hn => hsp H' n (SameT.of sm) hn) fun H' n sm hn hbest => ?_
    exact hQ H' n (SameT.of sm) (TabK.same ⟨ps, hT, .inr ⟨c', hca, htr, hce⟩⟩ sm) hn hbest
theorem pe_minK {k : Nat} {fr T c : Addr} {fd : FuncData} {sp : Sp} {CX : CXT} {ib is im : Nat} {E : XK} {pa p0 p1 p2 p3 p4 p5 lp kp : Pos}
    (F : FnOk X.prog X.w X.K X.mg X.base CX k fr fd ["buys", "sells", "near", "price"] sp) (hb : Binds X.K fd ["buys", "sells", "near", "price"] []) (hr : Room (k + 2) X.A)
    (hno : ∀ env H s e s', ¬ CX (env :: X.stack) H s E e s') (hm : X.mg "rank_of" = some (.ref fr)) (hk : PySem.W.keepIn X.K (.ref fr) = true)
    (hcd : X.env.code = .ref c) (hCK : PySem.W.codeHdIn X.K c T = true) (hbm : BM X.mg X.base)
    (Nb : X.N[ib]? = some ("buys" : Str)) (kb : X.env.kindOf "buys" = some .cell) (Ns : X.N[is]? = some ("sells" : Str)) (ks : X.env.kindOf "sells" = some .cell) (Nn : X.N[im]? = some ("near" : Str)) (kn : X.env.kindOf "near" = some .cell)
    (hgs : Gl X "min") (hms : X.mg "min" = none) (hr' : PA X [l] tl) (hs : backTo pos (starEach [l] X.env) = (false, eval l X.env) :: backTo pos (starEach [] X.env) := by rfl) (hpl : (backTo pos (starEach [l] X.env)).any (·.1) = false := by rfl) :
    PE X (.Call (.Name "min" p) [l] [⟨some "key", .Lambda (rkArgs pa) (rkBody p0 p1 p2 p3 p4 p5) rkScope lp, kp⟩] pos) (tMinK X.K T ib is im (X.env.qual ++ "<lambda>") lp sp E tl) := by
  intro pins s σ H Q I h
  refine wpAny_Call_Name_kw (ld_blt I hgs hms boot_min ?_ (by decide) (by decide))
  refine callWith_kw (thn (hr' pos pins s σ H _ I h) fun us s1 ⟨vs, H1, I1, r1, q1⟩ => ?_) hs hpl rfl rfl
  obtain ⟨v, rfl, q⟩ := q1
  show wpAny _ _ (evalAll [do let v ← eval (.Lambda (rkArgs pa) (rkBody p0 p1 p2 p3 p4 p5) rkScope lp) X.env; standAt pos; pure v]) _ _ s1
  exact wpAny_evalAll_cons (wpAny_bind (thn (minK_any F hb hr hno hm hk hcd hCK hbm Nb kb Ns ks Nn kn I1 r1 q) fun f s2 z => wpAny_bind (wpAny_standAt (wpAny_pure (wpAny_evalAll_nil z)))))
end
section
variable {X : Cx}
def min3 (i j k : Int) : Int := if j < i then (if k < j then k else j) else (if k < i then k else i)
theorem call_min3 (hc : X.calm = true) : CallR X (.builtin "min") (fun xs H Q => ∃ i j k, xs = [.int i, .int j, .int k] ∧ Q (.int (min3 i j k)) H) := by
  intro pins s σ H xs us Q I r h
  obtain ⟨i, j, k, rfl, q⟩ := h
  obtain ⟨u, w', w'', rfl, ⟨t, rfl⟩, ⟨t', rfl⟩, ⟨t'', rfl⟩⟩ : ∃ u w' w'', us = [u, w', w''] ∧ RelV (.int i) u ∧ RelV (.int j) w' ∧ RelV (.int k) w'' := by
    cases r with
    | cons a b => cases b with
      | cons c d => cases d with
        | cons e f => cases f; exact ⟨_, _, _, rfl, a, c, e⟩
  refine min_three_ints (I.ok.hd hc) fun h' tk kp => ⟨_, H, I.kept kp, ?_, q⟩
  unfold min3
  by_cases h1 : j < i
  · rw [if_pos h1, if_pos h1]
    by_cases h2 : k < j
    · rw [if_pos h2, if_pos h2]; exact ⟨_, rfl⟩
    · rw [if_neg h2, if_neg h2]; exact ⟨_, rfl⟩
  · rw [if_neg h1, if_neg h1]
    by_cases h2 : k < i
    · rw [if_pos h2, if_pos h2]; exact ⟨_, rfl⟩
    · rw [if_neg h2, if_neg h2]; exact ⟨_, rfl⟩
end
/-- a def whose body leans on its own code object -/
theorem Fun.okC {P : Program} {w : World} {K : PySem.W.Frag} {mg : Str → Option Value} {base : Heap} {x qual : Str} {st : Stmt} {f : Addr} {fd : FuncData} {N ps : List Str} {k : Nat} {sp : Sp} (F : Fun K x qual st f fd) (S : FnScope N ps (defScope st)) (len : ∀ vs H Q E, sp vs H Q E → vs.length = ps.length)
    (hbody : ∀ (A : Around) (outer : List Env) (s : Shared) (H : Hp) (vs : List V) (Q : VK) (E : XK), Room k (A.deeper (envOfC qual (defScope st) s.heap.objs.size f fd.code)) → sp vs H Q E →
      ∃ t, PSs (cxOf CX0 P w K mg base N qual (defScope st) f fd.code A outer s H E).nox (defBody st) t ∧ t { nx := fun _ H' => Q .non H', rt := Q } (start N vs) H) : FnOk P w K mg base CX0 (k + 1) f fd ps sp := by
  obtain ⟨oc, od, kV, doc, pm, an, cdv, ct, osl, rfl, lk, hcd⟩ := F.ex
  refine fn_of lk hcd S len fun A outer s H vs Q E hr hsp => ?_
  obtain ⟨t, h, q⟩ := hbody A outer s H vs Q E hr hsp
  exact ⟨t, h.nox, q⟩
theorem walk_ofT {l : PySem.W.OpenLaw} {n k : Nat} {q : Program} {loose : List Str} {XP : (Str → Option Value) → Heap → Prop} {YP : World → Heap → Prop} {d : DefRec} {K : Params → PySem.W.Frag} {CX : CXT} {sp : PySem.W.Frag → Addr → Sp} {x : Str} {T : Addr}
    (hn : l.most = some n) (hn2 : n ≤ sizeLine) (hdf : d.params.defaults = []) (hr : Room k callerA)
    (hY : ∀ (w : World) (h : Heap), YP w h → (K w.params).In h) (hYT : ∀ (w : World) (h : Heap), YP w h → h.get? T = some (PySem.W.tabObj #[])) (hKT : ∀ w : World, (K w.params).lookup T = none)
    (F : ∀ (w : World) (mg : Str → Option Value) (fa : Addr) (h : Heap), (K w.params).In h → h.Ns mainGlobals mg → mg d.name = some (.ref fa) →
      ∃ (c : Addr) (fd : FuncData), PySem.W.codeHdIn (K w.params) c T = true ∧ (∀ (s : Shared) (u : Value), BindsTo s fd ⟨[u], []⟩ [(x, u)]) ∧
        ∀ base : Heap, (K w.params).In base → base.Ns mainGlobals mg → BM mg base → FnOk l.prog w (K w.params) mg base CX k fa fd [x] (sp (K w.params) T))
    (hsp : ∀ (K : PySem.W.Frag) (H : Hp) (a : Addr) (ns : List Int), ns.length ≤ n → H T = some (.tbl #[]) → SqL K H a (ns.map V.int) → sp K T [.ref a] H (fun v _ => v = .bl true) fun _ _ _ => False)
    (hCX : ∀ (H : Hp) (s : Shared) (e : Value) (s' : Shared), CX [] H s (fun _ _ _ => False) e s' → False) :
    PySem.W.WalkO q loose XP YP l.row.toRowW d [] (fun f vs => PySem.call f vs) := by
  refine Att.attach_call hn hdf fun w s₀ s₁ mg mb fa o pm cd doc a vs ns G Y ho hd hcd hmg hobj hints hlen hg => ?_
  have KX := hY w _ Y
  obtain ⟨c, fd, hC, hb, hF⟩ := F w mg fa _ KX G.T.g hmg
  have hbm : BM mg s₁.heap := by
    obtain ⟨bm, ob, b1, b2, b3, b4, b5, b6⟩ := G.T.bmain
    refine ⟨bm, ob, b1, b2, fun z => ?_, b3, b4, b5, b6⟩
    obtain ⟨o, es, ep, e, hd, _⟩ := G.T.g
    rw [z, e] at b3
    cases b3
    rw [hd] at b6
    cases b6
  exact law_callT KX G.T.g G.T.b G.T.builtins G.T.nolimit hg hobj hints (Nat.le_trans hlen hn2) hr (PySem.W.codeHd_of_K KX hC) (hYT w _ Y) (hKT w) hbm hF hb (fun H h1 h2 => hsp _ H a ns hlen h1 h2) fun H e s' => hCX H s₁ e s'
end L2

namespace L2
open PySem PySem.Spec PySem.Calls PyProof.Rows
theorem nd_le {α : Type} [DecidableEq α] : ∀ (l m : List α), l.Nodup → (∀ x ∈ l, x ∈ m) → l.length ≤ m.length
  | [], _, _, _ => Nat.zero_le _
  | x :: l, m, nd, h => by
    obtain ⟨n1, n2⟩ := List.nodup_cons.mp nd
    have hx := h x List.mem_cons_self
    have := nd_le l (m.erase x) n2 fun y hy => (List.mem_erase_of_ne (fun e : y = x => n1 (e ▸ hy))).mpr (h y (List.mem_cons_of_mem _ hy))
    rw [List.length_erase_of_mem hx] at this
    have : 0 < m.length := List.length_pos_of_mem hx
    rw [List.length_cons]
    omega
section
variable {P : Program} {w : World} {κ : Type} [DecidableEq κ] {knd : HeapKind P w κ} {A : Around} {E : Value → Shared → Prop} {s : Shared}
/-- two dicts by keys of the heap hold the same -/
theorem pairs_heap {nm : String} {a b : Addr} {xs ys : List (κ × Addr × Value)} {Q : Bool → Shared → Prop} (hu : knd.room A) (sa : (a == sysModules) = false) (sb : (b == sysModules) = false)
    (da : s.heap.DictOfH knd a xs) (db : s.heap.DictOfH knd b ys) (hl : xs.length = ys.length)
    (hits : ∀ x ∈ xs, ∃ (j : Nat) (p : Addr × Value), ys[j]? = some (x.1, p) ∧ SeqAt.EqAt A s x.2.2 p.2 true) (h : Q true s) : wpAny (model P w) A (Builtin.Dict.samePairs nm a b) Q E s := by
  obtain ⟨oa, es, ep, ga, _, ea, la, ia, na⟩ := da
  obtain ⟨ob, fs, fp, gb, _, eb, lb, ib, nb⟩ := db
  have za : es.size = xs.length := size_of_entries la
  have zb : fs.size = ys.length := size_of_entries lb
  unfold Builtin.Dict.samePairs Builtin.Dict.showsAll
  rw [if_neg (by rw [sa]; exact Bool.false_ne_true), if_neg (by rw [sb]; exact Bool.false_ne_true)]
  refine wpAny_bind (wpAny_pure (wpAny_bind (wpAny_pure (wpAny_bind (wpAny_dictEntries ga ea ?_)))))
  dsimp only
  refine wpAny_bind (wpAny_dictEntries gb eb ?_)
  rw [if_neg (by rw [za, zb, hl]; simp)]
  refine wpAny_bind (wpAny_dictEpoch ga ea (wpAny_bind ?_))
  rw [Std.Legacy.Range.forIn_eq_forIn_range']; simp only [Nat.div_one, Nat.add_sub_cancel, Std.Legacy.Range.size, Nat.sub_zero]
  refine wpAny_forIn_list _ (fun rest q s' => s' = s ∧ q = (none, ()) ∧ ∃ i, rest = List.range' i (es.size - i) ∧ i ≤ es.size) _ ?_ ?_ _ _ ⟨rfl, rfl, 0, by simp, Nat.zero_le _⟩
  · rintro x rest q s' ⟨rfl, rfl, i, er, hi⟩
    have lt : i < es.size := by
      refine Nat.lt_of_not_le fun c => ?_
      rw [Nat.sub_eq_zero_of_le c] at er
      cases er
    rw [show es.size - i = es.size - (i + 1) + 1 by omega, List.range'_succ] at er
    obtain ⟨rfl, er⟩ := List.cons.inj er
    have hx : xs[x]? = some (xs[x]'(by omega)) := List.getElem?_eq_getElem (by omega)
    generalize xs[x]'(by omega) = y at hx
    have hm : y ∈ xs := List.mem_of_getElem? hx
    obtain ⟨j, p, hj, he⟩ := hits y hm
    refine wpAny_bind (wpAny_dictEntries ga ea ?_)
    rw [entry_at la x, hx]
    refine wpAny_bind (wpAny_holding (wpAny_bind (wpAny_dictFind_heap hu (ia y hm) gb eb lb ib nb ?_ ?_)))
    · intro no
      exact absurd hj (no j p)
    · intro j2 p2 hj2
      have e := idxH_unique nb hj hj2
      subst e
      rw [hj] at hj2
      cases hj2
      refine wpAny_bind (wpAny_dictEntries gb eb ?_)
      rw [entry_at lb j, hj]
      refine wpAny_holding (he P w _ _ ?_)
      rw [if_neg (by decide)]
      refine wpAny_bind (wpAny_dictEpoch ga ea ?_)
      rw [if_neg (by simp)]
      exact wpAny_pure ⟨rfl, rfl, x + 1, er, lt⟩
  · rintro q s' ⟨rfl, rfl, _⟩
    exact wpAny_pure h
theorem ne_heap {a b : Addr} {xs ys : List (κ × Addr × Value)} {Q : Value → Shared → Prop} (hu : knd.room A.in1) (hu2 : A.units < cLine) (sa : (a == sysModules) = false) (sb : (b == sysModules) = false)
    (da : s.heap.DictOfH knd a xs) (db : s.heap.DictOfH knd b ys) (hl : xs.length = ys.length)
    (hits : ∀ x ∈ xs, ∃ (j : Nat) (p : Addr × Value), ys[j]? = some (x.1, p) ∧ SeqAt.EqAt A.in1 s x.2.2 p.2 true) (h : Q (.bool false) s) : wpAny (model P w) A (compareOp .NotEq (.ref a) (.ref b)) Q E s := by
  refine wpAny_richCompare_same_room (op := .NotEq) da.typeIs db.typeIs PySem.F.slot_dict_ne (wpAny_call_entry PySem.F.slot_dict_ne da.typeIs PySem.F.entry_dict_ne ?_ (PySem.F.args_dict_ne_2 _ _)) hu2
  unfold Builtin.«dict.__ne__»
  show wpAny _ _ (Builtin.Dict.dictSlotArgs "__ne__" ⟨[.ref a, .ref b], []⟩ >>= _) _ _ s
  unfold Builtin.Dict.dictSlotArgs
  refine wpAny_bind (wpAny_bind (wpAny_notOrdered_dict da.typeIs ?_))
  refine wpAny_pure (a := (Value.ref a, Value.ref b)) (wpAny_bind (wpAny_isInstance (T := "dict") db.typeIs PySem.F.sub_dict_dict ?_))
  rw [if_neg (by decide)]
  refine wpAny_bind (wpAny_pure (wpAny_bind (wpAny_pure (wpAny_bind (pairs_heap hu sa sb da db hl hits ?_)))))
  exact wpAny_pure ⟨_, rfl, (fun z => nomatch z), by simpa using h⟩
end
section
variable {X : Cx}
theorem op_notIn_seqK {K : PySem.W.Frag} (h : X.K = K) : OpR X (compareOp .NotIn) (rIn K true) := h ▸ op_notIn_seq
theorem op_in_seqK {K : PySem.W.Frag} (h : X.K = K) : OpR X (compareOp .In) (rIn K false) := h ▸ op_in_seq
/-- != of two dicts by tuples that hold the same numbers -/
def rNeDT : R2 := fun x y H Q => ∃ a b kvs kvs', x = .ref a ∧ y = .ref b ∧ H a = some (.dT kvs) ∧ H b = some (.dT kvs') ∧ (∀ k, valV kvs k = valV kvs' k) ∧ (∀ k v, valV kvs k = some v → ∃ i, v = .int i) ∧ Q (.bl false) H
theorem op_neDT (hu : X.A.units + 64 < cLine) : OpR X (compareOp .NotEq) rNeDT := by
  intro pins s σ H x y v u Q I rx ry h
  obtain ⟨a, b, kvs, kvs', rfl, rfl, ha, hb, hv, hi, q⟩ := h
  cases rx
  cases ry
  obtain ⟨_, sa, xs, ra, da⟩ := dt_of I.hok ha
  obtain ⟨_, sb, ys, rb, db⟩ := dt_of I.hok hb
  have na : (xs.map (·.1)).Nodup := by obtain ⟨_, _, _, _, _, _, _, _, n⟩ := da; exact n
  have nb : (ys.map (·.1)).Nodup := by obtain ⟨_, _, _, _, _, _, _, _, n⟩ := db; exact n
  have hit : ∀ {zs ws : List (List Key × Addr × Value)} {k1 k2 : List (List Key × V)}, KT H k1 zs → KT H k2 ws → (zs.map (·.1)).Nodup → (∀ k, valV k1 k = valV k2 k) → (∀ k v, valV k1 k = some v → ∃ i, v = .int i) → ∀ x ∈ zs, ∃ (j : Nat) (p : Addr × Value), ws[j]? = some (x.1, p) ∧ SeqAt.EqAt X.A.in1 s x.2.2 p.2 true := fun {zs ws k1 k2} r1 r2 nd ev iv x hx => by
    obtain ⟨j, hj⟩ := List.mem_iff_getElem?.mp hx
    have e1 := atKey_of_get nd (k := x.1) (p := x.2) hj
    have q1 := r1.val x.1
    rw [e1] at q1
    cases e2 : valV k1 x.1 with
    | none => rw [e2] at q1; exact absurd (RelO.none_of q1) (fun z => nomatch z)
    | some v =>
      rw [e2] at q1
      obtain ⟨v1, z1, rv1⟩ := RelO.some_of q1
      cases (show x.2.2 = v1 from Option.some.inj z1)
      have q2 := r2.val x.1
      rw [← ev, e2] at q2
      obtain ⟨v2, z2, rv2⟩ := RelO.some_of q2
      obtain ⟨p, hp, rfl⟩ := Option.map_eq_some_iff.mp z2
      obtain ⟨i, rfl⟩ := iv _ _ e2
      obtain ⟨t1, w1⟩ := rv1
      obtain ⟨t2, w2⟩ := rv2
      unfold atKey at hp
      obtain ⟨f, hf, rfl⟩ := Option.map_eq_some_iff.mp hp
      have hfk : f.1 = x.1 := of_decide_eq_true (List.find?_some (p := fun z : List Key × Addr × Value => decide (z.1 = x.1)) hf)
      obtain ⟨j2, hj2⟩ := List.mem_iff_getElem?.mp (List.mem_of_find?_eq_some hf)
      refine ⟨j2, f.2, by rw [hj2, ← hfk], ?_⟩
      rw [w1, w2]
      have := SeqAt.EqAt.int_int (A := X.A.in1) (s := s) i t1 i t2
      rwa [beq_self_eq_true] at this
  have sub : ∀ {zs ws : List (List Key × Addr × Value)}, (∀ x ∈ zs, ∃ (j : Nat) (p : Addr × Value), ws[j]? = some (x.1, p) ∧ SeqAt.EqAt X.A.in1 s x.2.2 p.2 true) → ∀ k ∈ zs.map (·.1), k ∈ ws.map (·.1) := fun {zs ws} h k hk => by
    obtain ⟨x, hx, rfl⟩ := List.mem_map.mp hk
    obtain ⟨j, p, hj, _⟩ := h x hx
    exact List.mem_map.mpr ⟨_, List.mem_of_getElem? hj, rfl⟩
  have h1 := hit ra rb na hv hi
  have h2 := hit rb ra nb (fun k => (hv k).symm) (fun k v e => hi k v (by rw [hv]; exact e))
  have l1 := nd_le _ _ na (sub h1)
  have l2 := nd_le _ _ nb (sub h2)
  rw [List.length_map, List.length_map] at l1 l2
  exact ne_heap (tupleKind_room_in1 (by omega)) (by omega) sa sb da db (by omega) h1 ⟨.bl false, H, I, rfl, q⟩
end
section
variable {X : Cx} {e : Expr} {te : TE} {p p2 pos pos2 : Pos}
def tSortSetU (K : PySem.W.Frag) (te : TE) : TE := fun σ H Q => te σ H fun x H1 => ∃ (l : Addr) (zs : List Int), x = .ref l ∧ SqL K H1 l (zs.map V.int) ∧ zs.length ≤ 200 ∧ (∃ us : List Int, us.length < 64 ∧ ∀ z ∈ zs, z ∈ us) ∧ ∀ (L : Addr) (ms : List Int), H1 L = none → ms.Pairwise (· < ·) → (∀ z, z ∈ ms ↔ z ∈ zs) → Q (.ref L) (upd H1 L (.lst (ms.map V.int)))
theorem pe_sortedSetU (hc : X.calm = true) (hg1 : Gl X "sorted") (hm1 : X.mg "sorted" = none) (hg2 : Gl X "set") (hm2 : X.mg "set" = none) (he : PE X e te)
    (h1 : starEach [.Call (.Name "set" p2) [e] [] pos2] X.env = [(false, eval (.Call (.Name "set" p2) [e] [] pos2) X.env)] := by rfl)
    (h2 : starEach [e] X.env = [(false, eval e X.env)] := by rfl) : PE X (.Call (.Name "sorted" p) [.Call (.Name "set" p2) [e] [] pos2] [] pos) (tSortSetU X.K te) := by
  intro pins s σ H Q I h
  refine wpAny_Call_Name_kw (ld_blt I hg1 hm1 (by decide +kernel : bootBuiltins "sorted" = some (.builtin "sorted")) ?_)
  refine PyProof.Rows.callWith_builtin1 ?_ h1 rfl
  rw [h1]
  show wpAny _ _ (spliced ((false, eval (.Call (.Name "set" p2) [e] [] pos2) X.env) :: backTo pos [])) _ _ s
  refine Calls.spliced_cons (wpAny_Call_Name_kw (ld_blt I hg2 hm2 (by decide +kernel : bootBuiltins "set" = some (.type "set")) ?_))
  refine PyProof.Rows.callWith_type1 ?_ h2 rfl
  rw [h2]
  show wpAny _ _ (spliced ((false, eval e X.env) :: backTo pos2 [])) _ _ s
  refine Calls.spliced_cons (thn (he pins s σ H _ I h) fun u s1 ⟨x, H1, I1, rx, l, zs, ex, hq, hl, ⟨us, hus, hin⟩, q⟩ => ?_)
  subst ex
  obtain rfl : u = Value.ref l := rx
  obtain ⟨its, r', pl, hz⟩ := I1.list hq
  have hlen : its.length = zs.length := by rw [← r'.length, List.length_map]
  refine Calls.spliced_nil ?_
  have sz : its.toArray.size = zs.length := by rw [List.size_toArray, hlen]
  have keyed : ∀ (i : Nat) (v : Value), its.toArray[i]? = some v → ∃ t, v = Value.int (zs.getD i 0) t := fun i v hv => by
    rw [List.getElem?_toArray] at hv
    obtain ⟨w', e1, e2⟩ := r'.get (i := i) (x := V.int (zs.getD i 0)) (by
      have hi : i < zs.length := by have := (List.getElem?_eq_some_iff.mp hv).1; omega
      rw [List.getElem?_map, List.getD_eq_getElem?_getD, List.getElem?_eq_getElem hi]; rfl)
    rw [hv] at e1
    cases e1
    exact e2
  refine call_setS (knd := PySem.intKind X.prog X.w) (I1.ok.hd hc) pl.isList (fun i => zs.getD i 0) (fun i v hv => ?_) (by rw [sz]; unfold scanBound; omega) fun h' tk o' ks k1 g1 S1 m1 l1 => ?_
  · obtain ⟨t, rfl⟩ := keyed i v hv
    exact ⟨by simp [PySem.intKind, Value.isInt], rfl⟩
  · refine Calls.spliced_nil ?_
    obtain ⟨hex, nd, es, ep, t, hd, hel, hp, hb, hf, hr, hw⟩ := S1
    have hks : es.size = ks.length := by rw [← Array.length_toList]; exact (paired_len hp).symm
    have I2 : Inv X pins σ H1 { s1 with heap := h', toks := tk } := I1.kept (t' := tk) fun b ob e => k1 b ob (Heap.lt_size e) e
    refine Calls.call_function_entry kind_sorted plain_sorted entry_sorted (args_sorted1 _) ?_
    unfold Builtin.«sorted»
    refine wpAny_bind (m := checkCount "sorted" 1 1 _) (wpAny_pure ?_)
    refine wpAny_bind (collect_set (A := X.A.in1) (I1.ok.hd hc) g1 hex hd hb hf hr hw fun h2 tk2 dr vs kp2 hlt2 pv => ?_)
    obtain ⟨ns, hI, hpn⟩ := ints_permuted pv (ints_perm hp)
    have lv : vs.length = ks.length := by rw [pv.length_eq, List.length_map, Array.length_toList, hks]
    have lk : ks.length ≤ us.length := nd_le ks us nd fun z hz => by
      obtain ⟨j, hj, rfl⟩ := (m1 z).mp hz
      rw [sz] at hj
      refine hin _ ?_
      rw [List.getD_eq_getElem?_getD, List.getElem?_eq_getElem hj]
      exact List.getElem_mem hj
    have I3 : Inv X pins σ H1 { s1 with heap := h2, toks := tk2, drawn := dr } := (I2.kept (t' := tk2) kp2).drew
    refine wpAny_bind (wpAny_newList ?_ (by rw [lv, sizeLine_eq]; omega))
    have hoL : (h2.push (seqObj "list" vs.toArray 0)).get? h2.objs.size = some (seqObj "list" vs.toArray 0) := Heap.get?_push_size _ rfl
    refine wpAny_bind (wpAny_holding (wpAny_call_entry slot_list_sort ⟨_, hoL, rfl⟩ entry_list_sort (list_sort_tree hoL hI (by omega) fun out ms a1 a2 a3 => ⟨_, rfl, ?_⟩) (args_list_sort _)))
    obtain ⟨ee, he2⟩ := sortedHeap_at (vs := vs) (out := out) hoL
    have old : ∀ b ob, h2.get? b = some ob → (sortedHeap (h2.push (seqObj "list" vs.toArray 0)) h2.objs.size vs out).get? b = some ob := fun b ob e => by
      have lb := Heap.lt_size e
      rw [sortedHeap_old (Nat.ne_of_lt lb) (by rw [size_push']; exact Nat.lt_succ_of_lt lb)]
      exact Heap.get?_push_of_some _ e
    have pmk := a2.trans hpn
    refine wpAny_pure ⟨_, rfl, .ref h2.objs.size, _, I3.laid (t' := tk2) (fun b o e => old b o e) (Nat.le_refl _) (show ObjOk X.prog X.w _ _ _ (.lst (ms.map V.int)) from ⟨?_, out.toList, ee, ints_back a1, he2⟩), rfl, q _ ms (I3.hok.fresh (Nat.le_refl _)) ?_ fun z => ?_⟩
    · rw [List.length_map, pmk.length_eq, sizeLine_eq]
      omega
    · refine (a3.and (pmk.nodup_iff.mpr nd)).imp fun {a b} z => ?_
      have := z.1
      have := z.2
      omega
    · rw [pmk.mem_iff, m1, sz]
      constructor
      · rintro ⟨j, hj, rfl⟩
        rw [List.getD_eq_getElem?_getD, List.getElem?_eq_getElem hj]
        exact List.getElem_mem hj
      · intro hz'
        obtain ⟨j, hj, ej⟩ := List.mem_iff_getElem.mp hz'
        exact ⟨j, hj, by rw [List.getD_eq_getElem?_getD, List.getElem?_eq_getElem hj]; exact ej⟩
end
end L2

namespace K31
open PySem L2
def top (i : Nat) : Stmt := PySem.Challenge.pw_bellbook_k31_whole_one_in_two_parts.main.body.getD i (.Pass ⟨0, 0, 0, 0⟩)
structure Bl (mg : Str → Option Value) : Prop where
  b_abs : mg "abs" = none
  b_bool : mg "bool" = none
  b_int : mg "int" = none
  b_isinstance : mg "isinstance" = none
  b_len : mg "len" = none
  b_list : mg "list" = none
  b_max : mg "max" = none
  b_min : mg "min" = none
  b_range : mg "range" = none
  b_set : mg "set" = none
  b_sorted : mg "sorted" = none
  b_str : mg "str" = none
  b_sum : mg "sum" = none
  b_tuple : mg "tuple" = none
structure Co (mg : Str → Option Value) where
  t_LEFT : Tok
  t_NAME : Tok
  t_PEAK : Tok
  t_PRICE : Tok
  t_SIDE : Tok
  m_LEFT : mg "LEFT" = some (.int 4 t_LEFT)
  m_NAME : mg "NAME" = some (.int 0 t_NAME)
  m_PEAK : mg "PEAK" = some (.int 6 t_PEAK)
  m_PRICE : mg "PRICE" = some (.int 3 t_PRICE)
  m_SIDE : mg "SIDE" = some (.int 2 t_SIDE)
set_option genInjectivity false in
set_option genSizeOf false in
structure Er (K : PySem.W.Frag) (mg : Str → Option Value) where
local macro_rules | `(tactic| walk_at "sz") => `(tactic| first | exact szOk (Nat.le_of_ble_eq_true rfl) | exact szLt (Nat.le_of_ble_eq_true rfl) | omega)
local macro_rules | `(tactic| walk_at "hp") => `(tactic| first | assumption | exact upd_same | (refine at_upd ?_ ?_ <;> walk_at "hp"))
local macro_rules | `(tactic| walk_at "sq") => `(tactic| first | assumption | exact .inl (.inl upd_same) | (refine sq_upd ?_ ?_ <;> first | walk_at "sq" | walk_at "hp"))
local macro_rules | `(tactic| walk_at "side") => `(tactic| first | (show (0 : Int) < _; decide) | exact ⟨by decide, by decide⟩ | exact ⟨by decide, by decide, by decide⟩ | exact .inl ⟨by decide, by decide⟩ | exact .inr ⟨by decide, by decide⟩ | omega)
local macro_rules | `(tactic| walk_at "rd1") => `(tactic| first
  | (refine ⟨_, rfl, ?_⟩)
  | (refine ⟨_, _, rfl, rfl, ?_⟩)
  | (refine ⟨rfl, ?_⟩)
  | (refine ⟨_, _, rfl, rfl, by walk_at "side", ?_⟩))
local macro_rules | `(tactic| walk_at "rd") => `(tactic| repeat walk_at "rd1")

structure Od where
  n : Str
  w : Str
  s : Str
  pr : Int
  l : Int
  sh : Int
  pk : Int
def odV (o : Od) : List V := [.str o.n, .str o.w, .str o.s, .int o.pr, .int o.l, .int o.sh, .int o.pk]
abbrev AO := Addr × Od
def rf (p : AO) : V := .ref p.1
def Ords (H : Hp) (ps : List AO) : Prop := ∀ p ∈ ps, H p.1 = some (.tup (odV p.2))
theorem Ords.same {H H' : Hp} {ps : List AO} (h : Ords H ps) (s : Same H H') : Ords H' ps := fun p hp => s _ _ (h p hp)
theorem Ords.upd {H : Hp} {ps : List AO} {l : Addr} {xs : List V} {u : HO} (h : Ords H ps) (hl : H l = some (.lst xs)) : Ords (upd H l u) ps := fun p hp => upd_tup (h p hp) hl
theorem Ords.app {H : Hp} {ps qs : List AO} (h : Ords H ps) (h2 : Ords H qs) : Ords H (ps ++ qs) := fun p hp => (List.mem_append.mp hp).elim (h p) (h2 p)
theorem at_ords {ps : List AO} {i : Int} (h0 : 0 ≤ i) (h1 : i < ps.length) : ∃ x ∈ ps, atI (ps.map rf) i = some (rf x) := by
  obtain ⟨k, rfl⟩ := Int.eq_ofNat_of_zero_le h0
  have hk : k < ps.length := by omega
  exact ⟨ps[k], List.getElem_mem hk, atI_nat (by rw [List.getElem?_map, List.getElem?_eq_getElem hk]; rfl)⟩
theorem get_rf {ps : List AO} {i : Nat} {x : V} (h : (ps.map rf)[i]? = some x) : ∃ p, x = rf p ∧ ps[i]? = some p ∧ p ∈ ps := by
  rw [List.getElem?_map] at h
  cases e : ps[i]? with
  | none => rw [e] at h; cases h
  | some n => rw [e] at h; exact ⟨n, (Option.some.inj h).symm, rfl, List.mem_of_getElem? e⟩
theorem at_row {z : Str} {i : Int} (h0 : 0 ≤ i) (h1 : i < (z.cps.size : Int)) : ∃ c, atI z.cps.toList i = some c := by
  obtain ⟨k, rfl⟩ := Int.eq_ofNat_of_zero_le h0
  have hk : k < z.cps.toList.length := by rw [Array.length_toList]; omega
  exact ⟨_, atI_nat (List.getElem?_eq_getElem hk)⟩
def ROW : Str := "abcdefghijklmnopqrstuvwxyz0123456789"
theorem row_sz : ROW.cps.size = 36 := by decide +kernel
theorem row_ok : ROW.length ≤ sizeLine := szOk (by show ROW.cps.size ≤ _; rw [row_sz]; decide)
theorem one_sz (c : Nat) : (Str.mk #[c]).length = 1 := rfl
def aheadB (s : Str) (p o : Int) : Bool := if s = "buy" then decide (o < p) else decide (p < o)
def psum (f : Od → Int) (ps : List AO) : Int := (ps.map fun p => f p.2).sum
def wOf (price : Int) (o : Od) : Int := if aheadB o.s price o.pr = true then 0 else o.l
theorem wsum_is (price : Int) : ∀ ps : List AO, ((ps.filter fun p => !aheadB p.2.s price p.2.pr).map fun p => p.2.l).sum = psum (wOf price) ps
  | [] => rfl
  | p :: ps => by
    have ih := wsum_is price ps
    unfold psum at *
    rw [List.map_cons, List.sum_cons, ← ih]
    unfold wOf
    by_cases c : aheadB p.2.s price p.2.pr = true
    · rw [List.filter_cons, if_pos c]; simp [c]
    · rw [List.filter_cons, if_neg c]; simp [c]

def prO (ps : List AO) : List Int := ps.map fun x => x.2.pr
/-- what the lines want and offer at a price, the less of the two, the gap, the way to the near price -/
def volO (pb ps : List AO) (p : Int) : Int := if psum (wOf p) ps < psum (wOf p) pb then psum (wOf p) ps else psum (wOf p) pb
def surO (pb ps : List AO) (p : Int) : Int := if psum (wOf p) pb - psum (wOf p) ps < 0 then -(psum (wOf p) pb - psum (wOf p) ps) else psum (wOf p) pb - psum (wOf p) ps
def farO (near p : Int) : Int := if p - near < 0 then -(p - near) else p - near
def rkO (pb ps : List AO) (near p : Int) : List Int := [-(volO pb ps p), surO pb ps p, farO near p, p]

theorem lexLt_eq : ∀ (a b : List Int), a.length = b.length → HT.lexLt a b = false → HT.lexLt b a = false → a = b
  | [], [], _, _, _ => rfl
  | x :: a, y :: b, h, h1, h2 => by
    rw [HT.lexLt_cons] at h1 h2
    by_cases e : x = y
    · subst e
      rw [if_pos rfl] at h1 h2
      rw [lexLt_eq a b (by simpa using h) h1 h2]
    · rw [if_neg e] at h1
      rw [if_neg (fun z => e z.symm)] at h2
      have := of_decide_eq_false h1
      have := of_decide_eq_false h2
      omega
/-- the price that the first ones of the prices qs ask for -/
def DueOk (pb ps : List AO) (near : Int) (qs : List Int) (v : V) : Prop :=
  (v = .non ∧ ∀ p ∈ qs, ¬ 0 < volO pb ps p) ∨ ∃ p, v = .int p ∧ p ∈ qs ∧ 0 < volO pb ps p ∧ ∀ x ∈ qs, 0 < volO pb ps x → HT.lexLt (rkO pb ps near x) (rkO pb ps near p) = false
theorem due_one {pb ps : List AO} {near : Int} {qs : List Int} {v u : V} (h : DueOk pb ps near qs v) (g : DueOk pb ps near qs u) : v = u := by
  rcases h with ⟨rfl, h⟩ | ⟨p, rfl, m, h0, h⟩
  · rcases g with ⟨rfl, _⟩ | ⟨p, rfl, m, h0, _⟩
    · rfl
    · exact absurd h0 (h p m)
  · rcases g with ⟨rfl, g⟩ | ⟨p', rfl, m', g0, g⟩
    · exact absurd h0 (g p m)
    · have := lexLt_eq (rkO pb ps near p') (rkO pb ps near p) rfl (h p' m' g0) (g p m h0)
      simp only [rkO, List.cons.injEq] at this
      rw [this.2.2.2.1]
theorem rk_vol {pb ps : List AO} {near x p : Int} (h : HT.lexLt (rkO pb ps near x) (rkO pb ps near p) = false) : volO pb ps x ≤ volO pb ps p := by
  unfold rkO at h
  rw [HT.lexLt_cons] at h
  by_cases e : -(volO pb ps x) = -(volO pb ps p)
  · omega
  · rw [if_neg e] at h
    have := of_decide_eq_false h
    omega
def GoodO (sd : Str) (o : Od) : Prop := o.s = sd ∧ 1 ≤ o.l ∧ 0 ≤ o.pk
theorem psum_nn {price : Int} : ∀ {ps : List AO}, (∀ x ∈ ps, 1 ≤ x.2.l) → 0 ≤ psum (wOf price) ps
  | [], _ => Int.le_refl _
  | x :: ps, h => by
    have ih := psum_nn (price := price) (ps := ps) fun y hy => h y (List.mem_cons_of_mem _ hy)
    have := h x List.mem_cons_self
    unfold psum at *
    rw [List.map_cons, List.sum_cons]
    have : 0 ≤ wOf price x.2 := by unfold wOf; split <;> omega
    omega
theorem vol_nn {pb ps : List AO} {p : Int} (h1 : ∀ x ∈ pb, 1 ≤ x.2.l) (h2 : ∀ x ∈ ps, 1 ≤ x.2.l) : 0 ≤ volO pb ps p := by
  have := psum_nn (price := p) h1
  have := psum_nn (price := p) h2
  unfold volO
  split <;> omega
theorem lT {T : Addr} {H H' : Hp} {a : Addr} {xs : List V} {qual : Str} {lp : Pos} (ht : TabK qual lp T H) (sm : SameT T H H') (h : H a = some (.lst xs)) : H' a = some (.lst xs) := by
  obtain ⟨ps, hT, _⟩ := ht
  exact sm _ _ (fun z => by rw [z, hT] at h; cases h) h
theorem ordsT {T : Addr} {H H' : Hp} {ps : List AO} {qual : Str} {lp : Pos} (ht : TabK qual lp T H) (sm : SameT T H H') (h : Ords H ps) : Ords H' ps := by
  obtain ⟨qs, hT, _⟩ := ht
  exact fun p hp => sm _ _ (fun z => by have := h p hp; rw [z, hT] at this; cases this) (h p hp)
theorem tab_neL {T a : Addr} {H : Hp} {xs : List V} {qual : Str} {lp : Pos} (ht : TabK qual lp T H) (h : H a = some (.lst xs)) : a ≠ T := by
  obtain ⟨ps, hT, _⟩ := ht
  exact fun z => by rw [z, hT] at h; cases h
def QN : Str := (Str.ofString "call_price" ++ Str.ofString ".<locals>.") ++ Str.ofString "<lambda>"
def LP : Pos := ⟨39, 27, 39, 74⟩

def shw (l pk : Int) : Int := if pk = 0 then l else if l < pk then l else pk
def ordV (n w s : Str) (pr l sh pk : Int) : List V := [.str n, .str w, .str s, .int pr, .int l, .int sh, .int pk]
theorem ord_cut (n w s : Str) (pr l sh pk : Int) : ¬ (HT.sIx (ordV n w s pr l sh pk).length 0 none = 0 ∧ HT.sIx (ordV n w s pr l sh pk).length (ordV n w s pr l sh pk).length (some 4) = (ordV n w s pr l sh pk).length) := by
  show ¬ (HT.sIx 7 0 none = 0 ∧ HT.sIx 7 7 (some 4) = 7)
  decide
def frO (o : Od) (m : Int) : Od := ⟨o.n, o.w, o.s, o.pr, m, shw m o.pk, o.pk⟩
def aft : List Od → Int → List Od
  | [], _ => []
  | o :: r, t => if t ≤ 0 then o :: r else if o.l ≤ t then aft r (t - o.l) else frO o (o.l - t) :: r
def sml (os : List Od) : Int := (os.map fun o => o.l).sum
theorem sml_cons (o : Od) (r : List Od) : sml (o :: r) = o.l + sml r := by unfold sml; rw [List.map_cons, List.sum_cons]
theorem aft_zero : ∀ {L : List Od} {T : Int}, T ≤ 0 → aft L T = L
  | [], _, _ => rfl
  | o :: r, T, h => by rw [aft, if_pos h]
theorem sml_nn : ∀ {L : List Od}, (∀ x ∈ L, 1 ≤ x.l) → 0 ≤ sml L
  | [], _ => Int.le_refl _
  | o :: r, h => by
    rw [sml_cons]
    have := h o List.mem_cons_self
    have := sml_nn (L := r) fun x hx => h x (List.mem_cons_of_mem _ hx)
    omega
theorem aft_step : ∀ {L : List Od} {o : Od} {r : List Od} {T a : Int}, (∀ x ∈ L, 1 ≤ x.l) → 0 ≤ T → aft L T = o :: r → 1 ≤ a → a ≤ o.l → aft L (T + a) = if o.l = a then r else frO o (o.l - a) :: r
  | [], _, _, _, _, _, _, e, _, _ => by cases e
  | x :: R, o, r, T, a, pos, h0, e, ha, hl => by
    have hx := pos x List.mem_cons_self
    have pos' : ∀ y ∈ R, 1 ≤ y.l := fun y hy => pos y (List.mem_cons_of_mem _ hy)
    rw [aft] at e ⊢
    rw [if_neg (by omega : ¬ T + a ≤ 0)]
    by_cases c : T ≤ 0
    · rw [if_pos c] at e
      cases e
      have hT : T = 0 := by omega
      subst hT
      rw [Int.zero_add]
      by_cases d : x.l = a
      · rw [if_pos (by omega), if_pos d, aft_zero (by omega)]
      · rw [if_neg (by omega), if_neg d]
    · rw [if_neg c] at e
      by_cases d : x.l ≤ T
      · rw [if_pos d] at e
        rw [if_pos (by omega), show T + a - x.l = T - x.l + a by omega]
        exact aft_step pos' (by omega) e ha hl
      · rw [if_neg d] at e
        cases e
        have e1 : (frO x (x.l - T)).l = x.l - T := rfl
        rw [e1] at hl ⊢
        by_cases f : x.l - T = a
        · rw [if_pos (by omega), if_pos f, aft_zero (by omega)]
        · rw [if_neg (by omega), if_neg f, show x.l - (T + a) = x.l - T - a by omega]
          rfl
theorem aft_pos : ∀ {L : List Od} {T : Int}, (∀ x ∈ L, 1 ≤ x.l) → 0 ≤ T → ∀ x ∈ aft L T, 1 ≤ x.l
  | [], _, _, _, x, hx => nomatch hx
  | o :: r, T, h, h0, x, hx => by
    have ho := h o List.mem_cons_self
    have hr : ∀ y ∈ r, 1 ≤ y.l := fun y hy => h y (List.mem_cons_of_mem _ hy)
    rw [aft] at hx
    by_cases c : T ≤ 0
    · rw [if_pos c] at hx; exact h x hx
    · rw [if_neg c] at hx
      by_cases d : o.l ≤ T
      · rw [if_pos d] at hx; exact aft_pos hr (by omega) x hx
      · rw [if_neg d] at hx
        rcases List.mem_cons.mp hx with rfl | hx
        · show 1 ≤ o.l - T; omega
        · exact hr x hx
theorem aft_sum : ∀ {L : List Od} {T : Int}, (∀ x ∈ L, 1 ≤ x.l) → 0 ≤ T → T ≤ sml L → sml (aft L T) = sml L - T
  | [], T, _, h0, h1 => by
    have : sml [] = 0 := rfl
    rw [this] at h1 ⊢
    show (0 : Int) = _
    omega
  | o :: r, T, h, h0, h1 => by
    have ho := h o List.mem_cons_self
    have hr : ∀ y ∈ r, 1 ≤ y.l := fun y hy => h y (List.mem_cons_of_mem _ hy)
    rw [sml_cons] at h1
    rw [aft]
    by_cases c : T ≤ 0
    · rw [if_pos c, show T = 0 by omega]; omega
    · rw [if_neg c]
      by_cases d : o.l ≤ T
      · rw [if_pos d, aft_sum hr (by omega) (by omega), sml_cons]; omega
      · rw [if_neg d, sml_cons, sml_cons]
        show o.l - T + _ = _
        omega
theorem aft_len : ∀ (L : List Od) (T : Int), (aft L T).length ≤ L.length
  | [], _ => Nat.le_refl _
  | o :: r, T => by
    rw [aft]
    by_cases c : T ≤ 0
    · rw [if_pos c]; exact Nat.le_refl _
    · rw [if_neg c]
      by_cases d : o.l ≤ T
      · rw [if_pos d]
        have := aft_len r (T - o.l)
        rw [List.length_cons]; omega
      · rw [if_neg d]; exact Nat.le_refl _
/-- the trades of a call as they come: from nothing to T of V -/
inductive Trd (B S : List Od) (V : Int) : List (Str × Str × Int) → Int → Prop
  | nil : Trd B S V [] 0
  | snoc {ts : List (Str × Str × Int)} {T : Int} {b s : Od} {rb rs : List Od} (h : Trd B S V ts T) (hT : T < V) (hb : aft B T = b :: rb) (hs : aft S T = s :: rs) : Trd B S V (ts ++ [(b.n, s.n, min3 b.l s.l (V - T))]) (T + min3 b.l s.l (V - T))
theorem min3_le (i j k : Int) : min3 i j k ≤ i ∧ min3 i j k ≤ j ∧ min3 i j k ≤ k ∧ (min3 i j k = i ∨ min3 i j k = j ∨ min3 i j k = k) := by
  unfold min3
  split <;> split <;> omega
theorem Trd.nn {B S : List Od} {V T : Int} {ts : List (Str × Str × Int)} (h : Trd B S V ts T) (pB : ∀ x ∈ B, 1 ≤ x.l) (pS : ∀ x ∈ S, 1 ≤ x.l) (hV : 0 ≤ V) : 0 ≤ T ∧ T ≤ V := by
  induction h with
  | nil => exact ⟨Int.le_refl _, hV⟩
  | @snoc ts T b s rb rs h hT hb hs ih =>
    have h1 := aft_pos pB ih.1 b (by rw [hb]; exact List.mem_cons_self)
    have h2 := aft_pos pS ih.1 s (by rw [hs]; exact List.mem_cons_self)
    have := min3_le b.l s.l (V - T)
    omega
theorem Trd.len {B S : List Od} {V T : Int} {ts : List (Str × Str × Int)} (h : Trd B S V ts T) (pB : ∀ x ∈ B, 1 ≤ x.l) (pS : ∀ x ∈ S, 1 ≤ x.l) (hV : 0 ≤ V) : ts.length ≤ B.length + S.length + 1 ∧ (T < V → ts.length + (aft B T).length + (aft S T).length ≤ B.length + S.length) := by
  induction h with
  | nil =>
    rw [aft_zero (Int.le_refl _), aft_zero (Int.le_refl _)]
    refine ⟨Nat.zero_le _, fun _ => ?_⟩
    show 0 + _ + _ ≤ _
    omega
  | @snoc ts T b s rb rs h hT hb hs ih =>
    obtain ⟨n0, n1⟩ := h.nn pB pS hV
    have i2 := ih.2 hT
    have h1 := aft_pos pB n0 b (by rw [hb]; exact List.mem_cons_self)
    have h2 := aft_pos pS n0 s (by rw [hs]; exact List.mem_cons_self)
    have m := min3_le b.l s.l (V - T)
    have e1 := aft_step pB n0 hb (a := min3 b.l s.l (V - T)) (by omega) m.1
    have e2 := aft_step pS n0 hs (a := min3 b.l s.l (V - T)) (by omega) m.2.1
    rw [hb, hs] at i2
    simp only [List.length_cons] at i2
    rw [List.length_append]
    refine ⟨by show _ + 1 ≤ _; omega, fun lt => ?_⟩
    have g1 : (aft B (T + min3 b.l s.l (V - T))).length ≤ rb.length + 1 := by
      rw [e1]; split
      · omega
      · exact Nat.le_refl _
    have g2 : (aft S (T + min3 b.l s.l (V - T))).length ≤ rs.length + 1 := by
      rw [e2]; split
      · omega
      · exact Nat.le_refl _
    show _ + 1 + _ + _ ≤ _
    rcases m.2.2.2 with z | z | z
    · have : (aft B (T + min3 b.l s.l (V - T))).length ≤ rb.length := by rw [e1, if_pos z.symm]; exact Nat.le_refl _
      omega
    · have : (aft S (T + min3 b.l s.l (V - T))).length ≤ rs.length := by rw [e2, if_pos z.symm]; exact Nat.le_refl _
      omega
    · omega
/-- the order of a line -/
def Up (sd : Str) (os : List Od) : Prop := os.Pairwise fun x y => aheadB sd y.pr x.pr = false
theorem ahead_tr {sd : Str} {a b c : Int} (h1 : aheadB sd a b = false) (h2 : aheadB sd b c = false) : aheadB sd a c = false := by
  unfold aheadB at *
  split at h1
  · rename_i e
    rw [if_pos e] at h2 ⊢
    have := of_decide_eq_false h1
    have := of_decide_eq_false h2
    exact decide_eq_false (by omega)
  · rename_i e
    rw [if_neg e] at h2 ⊢
    have := of_decide_eq_false h1
    have := of_decide_eq_false h2
    exact decide_eq_false (by omega)
theorem ahead_asy {sd : Str} {a b : Int} (h1 : aheadB sd a b = true) : aheadB sd b a = false := by
  unfold aheadB at *
  split at h1
  · rename_i e
    rw [if_pos e]
    have := of_decide_eq_true h1
    exact decide_eq_false (by omega)
  · rename_i e
    rw [if_neg e]
    have := of_decide_eq_true h1
    exact decide_eq_false (by omega)
theorem up_ins {sd : Str} {os : List Od} {o : Od} {k : Nat} (h : Up sd os) (h1 : ∀ y ∈ os.take k, aheadB sd o.pr y.pr = false) (h2 : ∀ y ∈ os.drop k, aheadB sd o.pr y.pr = true) : Up sd (os.take k ++ o :: os.drop k) := by
  unfold Up at *
  have hh := h
  rw [← List.take_append_drop k os] at hh
  obtain ⟨a, b, c⟩ := List.pairwise_append.mp hh
  refine List.pairwise_append.mpr ⟨a, List.pairwise_cons.mpr ⟨fun y hy => ahead_asy (h2 y hy), b⟩, fun x hx y hy => ?_⟩
  rcases List.mem_cons.mp hy with rfl | hy
  · exact h1 x hx
  · exact c x hx y hy
def wsm (p : Int) (os : List Od) : Int := (os.map (wOf p)).sum
theorem wsm_cons (p : Int) (o : Od) (r : List Od) : wsm p (o :: r) = wOf p o + wsm p r := by unfold wsm; rw [List.map_cons, List.sum_cons]
theorem wOf_nn {p : Int} {o : Od} (h : 1 ≤ o.l) : 0 ≤ wOf p o ∧ wOf p o ≤ o.l := by unfold wOf; split <;> omega
theorem wsm_nn {p : Int} : ∀ {L : List Od}, (∀ x ∈ L, 1 ≤ x.l) → 0 ≤ wsm p L ∧ wsm p L ≤ sml L
  | [], _ => ⟨Int.le_refl _, Int.le_refl _⟩
  | o :: r, h => by
    have := wOf_nn (p := p) (h o List.mem_cons_self)
    have := wsm_nn (p := p) (L := r) fun x hx => h x (List.mem_cons_of_mem _ hx)
    rw [wsm_cons, sml_cons]
    omega
theorem psum_wsm (p : Int) (ps : List AO) : psum (wOf p) ps = wsm p (ps.map fun x => x.2) := by unfold psum wsm; rw [List.map_map]; rfl

theorem at_zero (x : AO) (r : List AO) : atI ((x :: r).map rf) 0 = some (rf x) := atI_nat (j := 0) rfl
theorem cut_tail1 (x : AO) (ps : List AO) : cutV ((x :: ps).map rf) (some 1) none = ps.map rf := by
  have h1 : ((x :: ps).map rf).length = ps.length + 1 := by rw [List.length_map, List.length_cons]
  unfold cutV
  rw [h1]
  have h2 : HT.sIx (ps.length + 1) 0 (some 1) = 1 := by
    have := HT.sIx_nat (ps.length + 1) 0 1
    rw [show min 1 (ps.length + 1) = 1 by omega] at this
    exact this
  rw [h2]
  show List.take (ps.length + 1 - 1) (List.drop 1 (rf x :: ps.map rf)) = _
  rw [List.drop_one, List.tail_cons, List.take_of_length_le (by rw [List.length_map]; omega)]
abbrev TR := Addr × Str × Str × Int
def trR (t : TR) : V := .ref t.1
def Trs (H : Hp) (ts : List TR) : Prop := ∀ t ∈ ts, H t.1 = some (.tup [.str t.2.1, .str t.2.2.1, .int t.2.2.2])
theorem Trs.same {H H' : Hp} {ts : List TR} (h : Trs H ts) (s : Same H H') : Trs H' ts := fun t ht => s _ _ (h t ht)
theorem Trs.upd {H : Hp} {ts : List TR} {l : Addr} {xs : List V} {u : HO} (h : Trs H ts) (hl : H l = some (.lst xs)) : Trs (upd H l u) ts := fun p hp => upd_tup (h p hp) hl
def VolIs (pb ps : List AO) (v : V) (W : Int) : Prop := (v = .non ∧ W = 0) ∨ ∃ p, v = .int p ∧ W = volO pb ps p ∧ 0 < W

theorem drop_pred {ps : List AO} {m : Nat} {x : AO} (h : ps[m - 1]? = some x) (hm : 0 < m) : ps.drop (m - 1) = x :: ps.drop m := by
  obtain ⟨lt, e⟩ := List.getElem?_eq_some_iff.mp h
  rw [List.drop_eq_getElem_cons lt, e, show m - 1 + 1 = m by omega]
theorem take_up {sd : Str} {ps : List AO} {m : Nat} {x : AO} {pr : Int} (up : Up sd (ps.map (·.2))) (h : ps[m - 1]? = some x) (hm : 0 < m) (ha : aheadB sd pr x.2.pr = false) : ∀ y ∈ ps.take m, aheadB sd pr y.2.pr = false := fun y hy => by
  obtain ⟨lt, e⟩ := List.getElem?_eq_some_iff.mp h
  have et : ps.take m = ps.take (m - 1) ++ [x] := by
    have := List.take_add_one (l := ps) (i := m - 1)
    rw [show m - 1 + 1 = m by omega, h] at this
    exact this
  rw [et] at hy
  rcases List.mem_append.mp hy with hy | hy
  · have up' : Up sd ((ps.take (m - 1) ++ x :: ps.drop m).map (·.2)) := by
      rw [← drop_pred h hm, List.take_append_drop]; exact up
    unfold Up at up'
    rw [List.map_append, List.map_cons] at up'
    have := (List.pairwise_append.mp up').2.2 y.2 (List.mem_map.mpr ⟨y, hy, rfl⟩) x.2 List.mem_cons_self
    exact ahead_tr ha this
  · rw [List.mem_singleton.mp hy]; exact ha
theorem up_insA {sd : Str} {ps : List AO} {t : Addr} {o : Od} {k : Nat} (h : Up sd (ps.map (·.2))) (h1 : ∀ y ∈ ps.take k, aheadB sd o.pr y.2.pr = false) (h2 : ∀ y ∈ ps.drop k, aheadB sd o.pr y.2.pr = true) : Up sd ((ps.take k ++ (t, o) :: ps.drop k).map (·.2)) := by
  rw [List.map_append, List.map_cons, List.map_take, List.map_drop]
  refine up_ins h (fun y hy => ?_) (fun y hy => ?_)
  · rw [← List.map_take] at hy
    obtain ⟨z, hz, rfl⟩ := List.mem_map.mp hy
    exact h1 z hz
  · rw [← List.map_drop] at hy
    obtain ⟨z, hz, rfl⟩ := List.mem_map.mp hy
    exact h2 z hz

theorem good_s {sd : Str} {ps : List AO} (g : ∀ x ∈ ps, GoodO sd x.2) : ∀ x ∈ ps.map (·.2), x.s = sd ∧ 1 ≤ x.l := fun x hx => by
  obtain ⟨y, hy, rfl⟩ := List.mem_map.mp hx
  exact ⟨(g y hy).1, (g y hy).2.1⟩
theorem get_tr {ps : List TR} {i : Nat} {x : V} (h : (ps.map trR)[i]? = some x) : ∃ p, x = trR p ∧ ps[i]? = some p ∧ p ∈ ps := by
  rw [List.getElem?_map] at h
  cases e : ps[i]? with
  | none => rw [e] at h; cases h
  | some n => rw [e] at h; exact ⟨n, (Option.some.inj h).symm, rfl, List.mem_of_getElem? e⟩
/-- the line with some orders of the name nm parted in two neighbours, the second one by the name ot -/
inductive Pt (nm ot : Str) : List Od → List Od → Prop
  | nil : Pt nm ot [] []
  | keep {L L' : List Od} (o : Od) : Pt nm ot L L' → Pt nm ot (o :: L) (o :: L')
  | part {L L' : List Od} (o : Od) (p : Int) : Pt nm ot L L' → o.n = nm → 1 ≤ p → p < o.l → Pt nm ot (o :: L) (⟨o.n, o.w, o.s, o.pr, p, p, 0⟩ :: ⟨ot, o.w, o.s, o.pr, o.l - p, o.l - p, 0⟩ :: L')
def rnm (nm ot x : Str) : Str := if x = ot then nm else x
/-- whose the u-th piece is -/
def own : List Od → Int → Option Str
  | [], _ => none
  | o :: r, u => if u < o.l then some o.n else own r (u - o.l)
theorem own_aft : ∀ {L : List Od} {b : Od} {rb : List Od} {T k : Int}, 0 ≤ T → aft L T = b :: rb → k < b.l → 0 ≤ k → own L (T + k) = some b.n
  | [], _, _, _, _, _, e, _, _ => by cases e
  | o :: r, b, rb, T, k, h0, e, h1, hk => by
    rw [aft] at e
    rw [own]
    by_cases c : T ≤ 0
    · rw [if_pos c] at e
      cases e
      rw [if_pos (by omega)]
    · rw [if_neg c] at e
      by_cases d : o.l ≤ T
      · rw [if_pos d] at e
        rw [if_neg (by omega), show T + k - o.l = T - o.l + k by omega]
        exact own_aft (by omega) e h1 hk
      · rw [if_neg d] at e
        cases e
        have h1' : k < o.l - T := h1
        rw [if_pos (by omega)]
        rfl
theorem own_pt {nm ot : Str} {L L' : List Od} (h : Pt nm ot L L') : ∀ u : Int, (own L' u).map (rnm nm ot) = (own L u).map (rnm nm ot) := by
  induction h with
  | nil => intro u; rfl
  | keep o h ih =>
    intro u
    rw [own, own]
    by_cases c : u < o.l
    · rw [if_pos c, if_pos c]
    · rw [if_neg c, if_neg c]; exact ih _
  | part o p h hn hp hq ih =>
    intro u
    rw [own, own, own]
    dsimp only
    have e1 : rnm nm ot ot = nm := by unfold rnm; rw [if_pos rfl]
    have e2 : rnm nm ot nm = nm := by unfold rnm; split <;> rfl
    by_cases c : u < p
    · rw [if_pos c, if_pos (by omega)]
    · rw [if_neg c]
      by_cases d : u < o.l
      · rw [if_pos (by omega), if_pos d, Option.map_some, Option.map_some, e1, hn, e2]
      · rw [if_neg (by omega), if_neg d, show u - p - (o.l - p) = u - o.l by omega]; exact ih _
def cnt (f : Nat → Bool) : Nat → Int
  | 0 => 0
  | n + 1 => cnt f n + if f n = true then 1 else 0
theorem cnt_add {f : Nat → Bool} {c : Bool} {n : Nat} : ∀ m : Nat, (∀ k, k < m → f (n + k) = c) → cnt f (n + m) = cnt f n + if c = true then (m : Int) else 0
  | 0, _ => by cases c <;> simp
  | m + 1, h => by
    have ih := cnt_add m fun k hk => h k (by omega)
    show cnt f (n + m) + (if f (n + m) = true then 1 else 0) = _
    rw [ih, h m (by omega)]
    cases c
    · rw [if_neg Bool.false_ne_true, if_neg Bool.false_ne_true, if_neg Bool.false_ne_true]; omega
    · rw [if_pos rfl, if_pos rfl, if_pos rfl]; omega
theorem cnt_ext {f g : Nat → Bool} : ∀ {n : Nat}, (∀ k, k < n → f k = g k) → cnt f n = cnt g n
  | 0, _ => rfl
  | n + 1, h => by
    show cnt f n + _ = cnt g n + _
    rw [cnt_ext fun k hk => h k (by omega), h n (by omega)]
/-- all that the two names have traded with one another -/
def pairS (nm ot x y : Str) (ts : List (Str × Str × Int)) : Int := (ts.map fun t => if rnm nm ot t.1 = x ∧ rnm nm ot t.2.1 = y then t.2.2 else 0).sum
def both (nm ot x y : Str) (B S : List Od) (u : Nat) : Bool := decide ((own B u).map (rnm nm ot) = some x ∧ (own S u).map (rnm nm ot) = some y)
theorem Trd.pairs {nm ot x y : Str} {B S : List Od} {V T : Int} {ts : List (Str × Str × Int)} (h : Trd B S V ts T) (pB : ∀ x ∈ B, 1 ≤ x.l) (pS : ∀ x ∈ S, 1 ≤ x.l) (hV : 0 ≤ V) : pairS nm ot x y ts = cnt (both nm ot x y B S) T.toNat := by
  induction h with
  | nil => rfl
  | @snoc ts T b s rb rs h hT hb hs ih =>
    obtain ⟨n0, n1⟩ := h.nn pB pS hV
    have h1 := aft_pos pB n0 b (by rw [hb]; exact List.mem_cons_self)
    have h2 := aft_pos pS n0 s (by rw [hs]; exact List.mem_cons_self)
    have m := min3_le b.l s.l (V - T)
    have m1 : 1 ≤ min3 b.l s.l (V - T) := by omega
    unfold pairS at ih ⊢
    rw [List.map_append, List.sum_append, ih]
    generalize min3 b.l s.l (V - T) = q at m m1
    have e : (T + q).toNat = T.toNat + q.toNat := by omega
    rw [e, cnt_add (c := decide (rnm nm ot b.n = x ∧ rnm nm ot s.n = y)) q.toNat fun k hk => ?_]
    · by_cases c : rnm nm ot b.n = x ∧ rnm nm ot s.n = y
      · rw [if_pos (decide_eq_true c)]
        show _ + ((if rnm nm ot b.n = x ∧ rnm nm ot s.n = y then q else 0) + 0) = _
        rw [if_pos c]
        omega
      · rw [if_neg (by rw [decide_eq_false c]; exact Bool.false_ne_true)]
        show _ + ((if rnm nm ot b.n = x ∧ rnm nm ot s.n = y then q else 0) + 0) = _
        rw [if_neg c]
        omega
    · unfold both
      have eT : ((T.toNat + k : Nat) : Int) = T + k := by omega
      rw [eT, own_aft n0 hb (by omega) (by omega), own_aft n0 hs (by omega) (by omega)]
      simp only [Option.map_some, Option.some.injEq]
theorem pairs_pt {nm ot : Str} {B S B' S' : List Od} {V : Int} {ts ts' : List (Str × Str × Int)} (h : Trd B S V ts V) (h' : Trd B' S' V ts' V) (hB : Pt nm ot B B') (hS : Pt nm ot S S') (pB : ∀ x ∈ B, 1 ≤ x.l) (pS : ∀ x ∈ S, 1 ≤ x.l) (pB' : ∀ x ∈ B', 1 ≤ x.l) (pS' : ∀ x ∈ S', 1 ≤ x.l) (hV : 0 ≤ V) (x y : Str) :
    pairS nm ot x y ts = pairS nm ot x y ts' := by
  rw [h.pairs pB pS hV, h'.pairs pB' pS' hV]
  exact cnt_ext fun k _ => by unfold both; rw [own_pt hB, own_pt hS]
theorem pt_pos {nm ot : Str} {L L' : List Od} (h : Pt nm ot L L') (p : ∀ x ∈ L, 1 ≤ x.l) : ∀ x ∈ L', 1 ≤ x.l := by
  induction h with
  | nil => exact p
  | keep o h ih =>
    intro x hx
    rcases List.mem_cons.mp hx with rfl | hx
    · exact p _ List.mem_cons_self
    · exact ih (fun y hy => p y (List.mem_cons_of_mem _ hy)) x hx
  | part o q h hn h1 h2 ih =>
    intro x hx
    rcases List.mem_cons.mp hx with rfl | hx
    · exact h1
    rcases List.mem_cons.mp hx with rfl | hx
    · show 1 ≤ o.l - q; omega
    · exact ih (fun y hy => p y (List.mem_cons_of_mem _ hy)) x hx
/-- what is wanted at a price stays -/
theorem pt_wOf {nm ot : Str} {L L' : List Od} (h : Pt nm ot L L') (p : Int) : (L'.map (wOf p)).sum = (L.map (wOf p)).sum := by
  induction h with
  | nil => rfl
  | keep o h ih => rw [List.map_cons, List.map_cons, List.sum_cons, List.sum_cons, ih]
  | part o q h hn h1 h2 ih =>
    rw [List.map_cons, List.map_cons, List.map_cons, List.sum_cons, List.sum_cons, List.sum_cons, ih]
    unfold wOf
    dsimp only
    split <;> omega
theorem pt_pr {nm ot : Str} {L L' : List Od} (h : Pt nm ot L L') (p : Int) : p ∈ L'.map (·.pr) ↔ p ∈ L.map (·.pr) := by
  induction h with
  | nil => exact Iff.rfl
  | keep o h ih => rw [List.map_cons, List.map_cons, List.mem_cons, List.mem_cons, ih]
  | part o q h hn h1 h2 ih =>
    rw [List.map_cons, List.map_cons, List.map_cons, List.mem_cons, List.mem_cons, List.mem_cons, ih]
    exact ⟨fun z => z.elim .inl id, .inr⟩
/-- who is none of the two -/
def oth (nm ot : Str) (o : Od) : Bool := !decide (o.n = nm ∨ o.n = ot)
def inn (nm ot : Str) (o : Od) : Bool := decide (o.n = nm ∨ o.n = ot)
def lft (nm ot : Str) (L : List Od) : Int := (L.map fun o => if inn nm ot o = true then o.l else 0).sum
theorem flt_two {nm ot : Str} (o : Od) (r : List Od) (e : o.n = nm ∨ o.n = ot) : (o :: r).filter (oth nm ot) = r.filter (oth nm ot) :=
  List.filter_cons_of_neg (by unfold oth; rw [decide_eq_true e]; exact Bool.false_ne_true)
theorem lft_cons {nm ot : Str} (o : Od) (r : List Od) : lft nm ot (o :: r) = (if inn nm ot o = true then o.l else 0) + lft nm ot r := by unfold lft; rw [List.map_cons, List.sum_cons]
theorem lft_two {nm ot : Str} (o : Od) (r : List Od) (e : o.n = nm ∨ o.n = ot) : lft nm ot (o :: r) = o.l + lft nm ot r := by
  rw [lft_cons, if_pos]
  unfold inn
  exact decide_eq_true e
theorem pt_oth {nm ot : Str} {L L' : List Od} (h : Pt nm ot L L') : L'.filter (oth nm ot) = L.filter (oth nm ot) := by
  induction h with
  | nil => rfl
  | keep o h ih => rw [List.filter_cons, List.filter_cons, ih]
  | part o q h hn h1 h2 ih => rw [flt_two ⟨o.n, o.w, o.s, o.pr, q, q, 0⟩ _ (.inl hn), flt_two ⟨ot, o.w, o.s, o.pr, o.l - q, o.l - q, 0⟩ _ (.inr rfl), flt_two o _ (.inl hn), ih]
theorem pt_lft {nm ot : Str} {L L' : List Od} (h : Pt nm ot L L') : lft nm ot L' = lft nm ot L := by
  induction h with
  | nil => rfl
  | keep o h ih => rw [lft_cons, lft_cons, ih]
  | part o q h hn h1 h2 ih =>
    rw [lft_two ⟨o.n, o.w, o.s, o.pr, q, q, 0⟩ _ (.inl hn), lft_two ⟨ot, o.w, o.s, o.pr, o.l - q, o.l - q, 0⟩ _ (.inr rfl), lft_two o _ (.inl hn), ih]
    dsimp only
    omega
/-- behind a call the others stand alike, and the two want alike -/
theorem pt_aft {nm ot : Str} {L L' : List Od} (h : Pt nm ot L L') : ∀ T : Int, 0 ≤ T → (aft L' T).filter (oth nm ot) = (aft L T).filter (oth nm ot) ∧ lft nm ot (aft L' T) = lft nm ot (aft L T) := by
  induction h with
  | nil => intro T h0; exact ⟨rfl, rfl⟩
  | @keep L L' o h ih =>
    intro T h0
    rw [aft, aft]
    by_cases c : T ≤ 0
    · rw [if_pos c, if_pos c]
      exact ⟨pt_oth (.keep o h), pt_lft (.keep o h)⟩
    · rw [if_neg c, if_neg c]
      by_cases d : o.l ≤ T
      · rw [if_pos d, if_pos d]; exact ih _ (by omega)
      · rw [if_neg d, if_neg d]
        exact ⟨pt_oth (.keep (frO o (o.l - T)) h), pt_lft (.keep (frO o (o.l - T)) h)⟩
  | @part L L' o q h hn h1 h2 ih =>
    intro T h0
    have p1 := pt_oth h
    have p2 := pt_lft h
    have eB : aft (o :: L) T = if T ≤ 0 then o :: L else if o.l ≤ T then aft L (T - o.l) else frO o (o.l - T) :: L := rfl
    have eA : aft (⟨o.n, o.w, o.s, o.pr, q, q, 0⟩ :: ⟨ot, o.w, o.s, o.pr, o.l - q, o.l - q, 0⟩ :: L') T = if T ≤ 0 then ⟨o.n, o.w, o.s, o.pr, q, q, 0⟩ :: ⟨ot, o.w, o.s, o.pr, o.l - q, o.l - q, 0⟩ :: L' else if q ≤ T then (if T - q ≤ 0 then ⟨ot, o.w, o.s, o.pr, o.l - q, o.l - q, 0⟩ :: L' else if o.l - q ≤ T - q then aft L' (T - q - (o.l - q)) else frO ⟨ot, o.w, o.s, o.pr, o.l - q, o.l - q, 0⟩ (o.l - q - (T - q)) :: L') else frO ⟨o.n, o.w, o.s, o.pr, q, q, 0⟩ (q - T) :: ⟨ot, o.w, o.s, o.pr, o.l - q, o.l - q, 0⟩ :: L' := rfl
    rw [eA, eB]
    by_cases c : T ≤ 0
    · rw [if_pos c, if_pos c]
      exact ⟨pt_oth (.part o q h hn h1 h2), pt_lft (.part o q h hn h1 h2)⟩
    · rw [if_neg c, if_neg c]
      by_cases d : o.l ≤ T
      · rw [if_pos (show q ≤ T by omega), if_pos d, if_neg (show ¬ T - q ≤ 0 by omega), if_pos (show o.l - q ≤ T - q by omega), show T - q - (o.l - q) = T - o.l by omega]
        exact ih _ (by omega)
      · rw [if_neg d]
        by_cases d1 : q ≤ T
        · rw [if_pos d1]
          by_cases d2 : T - q ≤ 0
          · rw [if_pos d2]
            refine ⟨by rw [flt_two ⟨ot, o.w, o.s, o.pr, o.l - q, o.l - q, 0⟩ _ (.inr rfl), flt_two (frO o (o.l - T)) _ (.inl hn), p1], ?_⟩
            rw [lft_two ⟨ot, o.w, o.s, o.pr, o.l - q, o.l - q, 0⟩ _ (.inr rfl), lft_two (frO o (o.l - T)) _ (.inl hn), p2]
            show o.l - q + _ = o.l - T + _
            omega
          · rw [if_neg d2, if_neg (show ¬ o.l - q ≤ T - q by omega)]
            refine ⟨by rw [flt_two (nm := nm) (ot := ot) (frO ⟨ot, o.w, o.s, o.pr, o.l - q, o.l - q, 0⟩ (o.l - q - (T - q))) _ (.inr rfl), flt_two (frO o (o.l - T)) _ (.inl hn), p1], ?_⟩
            rw [lft_two (nm := nm) (ot := ot) (frO ⟨ot, o.w, o.s, o.pr, o.l - q, o.l - q, 0⟩ (o.l - q - (T - q))) _ (.inr rfl), lft_two (frO o (o.l - T)) _ (.inl hn), p2]
            show o.l - q - (T - q) + _ = o.l - T + _
            omega
        · rw [if_neg d1]
          refine ⟨by rw [flt_two (frO ⟨o.n, o.w, o.s, o.pr, q, q, 0⟩ (q - T)) _ (.inl hn), flt_two ⟨ot, o.w, o.s, o.pr, o.l - q, o.l - q, 0⟩ _ (.inr rfl), flt_two (frO o (o.l - T)) _ (.inl hn), p1], ?_⟩
          rw [lft_two (frO ⟨o.n, o.w, o.s, o.pr, q, q, 0⟩ (q - T)) _ (.inl hn), lft_two ⟨ot, o.w, o.s, o.pr, o.l - q, o.l - q, 0⟩ _ (.inr rfl), lft_two (frO o (o.l - T)) _ (.inl hn), p2]
          show q - T + (o.l - q + _) = o.l - T + _
          omega
theorem Pt.app {nm ot : Str} {A A' B B' : List Od} (h : Pt nm ot A A') (g : Pt nm ot B B') : Pt nm ot (A ++ B) (A' ++ B') := by
  induction h with
  | nil => exact g
  | keep o h ih => exact .keep o ih
  | part o p h hn h1 h2 ih => exact .part o p ih hn h1 h2
theorem pt_len2 {nm ot : Str} {L L' : List Od} (h : Pt nm ot L L') : L'.length ≤ 2 * L.length := by
  induction h with
  | nil => exact Nat.le_refl _
  | keep o h ih => rw [List.length_cons, List.length_cons]; omega
  | part o q h hn h1 h2 ih => rw [List.length_cons, List.length_cons, List.length_cons]; omega
def PtL (nm ot : Str) (H : Hp) (r : Addr) (ps : List AO) : Prop := ∃ qs : List AO, H r = some (.lst (qs.map rf)) ∧ Ords H qs ∧ Pt nm ot (ps.map (·.2)) (qs.map (·.2))
theorem PtL.same {nm ot : Str} {H H' : Hp} {r : Addr} {ps : List AO} (h : PtL nm ot H r ps) (s : Same H H') : PtL nm ot H' r ps := by
  obtain ⟨qs, h1, h2, h3⟩ := h
  exact ⟨qs, s _ _ h1, h2.same s, h3⟩
theorem ords_snoc {H : Hp} {qs : List AO} {y : AO} (h : Ords H qs) (hy : H y.1 = some (.tup (odV y.2))) : Ords H (qs ++ [y]) := fun z hz => by
  rcases List.mem_append.mp hz with hz | hz
  · exact h z hz
  · rw [List.mem_singleton.mp hz]; exact hy
theorem pt_psum {nm ot : Str} {pb qb : List AO} (h : Pt nm ot (pb.map (·.2)) (qb.map (·.2))) (p : Int) : psum (wOf p) qb = psum (wOf p) pb := by
  rw [psum_wsm, psum_wsm]
  exact pt_wOf h p
theorem pt_prO {nm ot : Str} {pb qb : List AO} (h : Pt nm ot (pb.map (·.2)) (qb.map (·.2))) (p : Int) : p ∈ prO qb ↔ p ∈ prO pb := by
  have := pt_pr h p
  rw [List.map_map, List.map_map] at this
  exact this
/-- some few prices -/
def Few (pb ps : List AO) : Prop := ∃ us : List Int, us.length < 64 ∧ ∀ z ∈ prO (pb ++ ps), z ∈ us
theorem few_len {pb ps : List AO} (h : pb.length + ps.length < 64) : Few pb ps := ⟨prO (pb ++ ps), by unfold prO; rw [List.length_map, List.length_append]; exact h, fun _ z => z⟩
theorem prO_app (pb ps : List AO) : prO (pb ++ ps) = prO pb ++ prO ps := by unfold prO; rw [List.map_append]
theorem few_pt {nm ot : Str} {pb ps qb qs : List AO} (h1 : Pt nm ot (pb.map (·.2)) (qb.map (·.2))) (h2 : Pt nm ot (ps.map (·.2)) (qs.map (·.2))) (h : pb.length + ps.length < 64) : Few qb qs := by
  obtain ⟨us, l, m⟩ := few_len h
  refine ⟨us, l, fun z hz => m z ?_⟩
  rw [prO_app, List.mem_append, pt_prO h1, pt_prO h2, ← List.mem_append, ← prO_app] at hz
  exact hz
theorem volO_pt {nm ot : Str} {pb ps qb qs : List AO} (h1 : Pt nm ot (pb.map (·.2)) (qb.map (·.2))) (h2 : Pt nm ot (ps.map (·.2)) (qs.map (·.2))) (p : Int) : volO qb qs p = volO pb ps p := by
  unfold volO
  rw [pt_psum h1, pt_psum h2]
theorem rkO_pt {nm ot : Str} {pb ps qb qs : List AO} (h1 : Pt nm ot (pb.map (·.2)) (qb.map (·.2))) (h2 : Pt nm ot (ps.map (·.2)) (qs.map (·.2))) (near p : Int) : rkO qb qs near p = rkO pb ps near p := by
  unfold rkO surO
  rw [volO_pt h1 h2, pt_psum h1, pt_psum h2]
/-- both calls have the same price -/
theorem due_pt {nm ot : Str} {pb ps qb qs : List AO} {near : Int} {v u : V} (h1 : Pt nm ot (pb.map (·.2)) (qb.map (·.2))) (h2 : Pt nm ot (ps.map (·.2)) (qs.map (·.2))) (d1 : DueOk pb ps near (prO (pb ++ ps)) v) (d2 : DueOk qb qs near (prO (qb ++ qs)) u) : v = u := by
  have mm : ∀ z, z ∈ prO (qb ++ qs) ↔ z ∈ prO (pb ++ ps) := fun z => by rw [prO_app, prO_app, List.mem_append, List.mem_append, pt_prO h1, pt_prO h2]
  refine due_one d1 ?_
  rcases d2 with ⟨e, h⟩ | ⟨p, e, m, h0, h⟩
  · exact .inl ⟨e, fun p hp => by rw [← volO_pt h1 h2]; exact h p ((mm p).mpr hp)⟩
  · refine .inr ⟨p, e, (mm p).mp m, by rw [← volO_pt h1 h2]; exact h0, fun x hx h0 => ?_⟩
    rw [← rkO_pt h1 h2, ← rkO_pt h1 h2]
    exact h x ((mm x).mpr hx) (by rw [volO_pt h1 h2]; exact h0)
theorem vol_pt {nm ot : Str} {pb ps qb qs : List AO} {v : V} {W W' : Int} (h1 : Pt nm ot (pb.map (·.2)) (qb.map (·.2))) (h2 : Pt nm ot (ps.map (·.2)) (qs.map (·.2))) (d1 : VolIs pb ps v W) (d2 : VolIs qb qs v W') : W' = W := by
  rcases d1 with ⟨e, rfl⟩ | ⟨p, e, rfl, _⟩
  · rcases d2 with ⟨_, z⟩ | ⟨p', e', _⟩
    · exact z
    · rw [e] at e'; cases e'
  · rcases d2 with ⟨e', _⟩ | ⟨p', e', z, _⟩
    · rw [e] at e'; cases e'
    · rw [e] at e'
      cases e'
      rw [z, volO_pt h1 h2]
theorem Trd.one {B S : List Od} {V T : Int} {ts : List (Str × Str × Int)} (h : Trd B S V ts T) (pB : ∀ x ∈ B, 1 ≤ x.l) (pS : ∀ x ∈ S, 1 ≤ x.l) (hV : 0 ≤ V) : ∀ t ∈ ts, 1 ≤ t.2.2 := by
  induction h with
  | nil => intro t ht; cases ht
  | @snoc ts T b s rb rs h hT hb hs ih =>
    obtain ⟨n0, n1⟩ := h.nn pB pS hV
    have h1 := aft_pos pB n0 b (by rw [hb]; exact List.mem_cons_self)
    have h2 := aft_pos pS n0 s (by rw [hs]; exact List.mem_cons_self)
    have m := min3_le b.l s.l (V - T)
    intro t ht
    rcases List.mem_append.mp ht with ht | ht
    · exact ih t ht
    · rw [List.mem_singleton.mp ht]
      show 1 ≤ min3 b.l s.l (V - T)
      omega
/-- somebody of the two names has traded -/
def Met (nm ot x y : Str) (ts : List (Str × Str × Int)) : Prop := ∃ t ∈ ts, rnm nm ot t.1 = x ∧ rnm nm ot t.2.1 = y
theorem pairS_cons {nm ot x y : Str} (t : Str × Str × Int) (ts : List (Str × Str × Int)) : pairS nm ot x y (t :: ts) = (if rnm nm ot t.1 = x ∧ rnm nm ot t.2.1 = y then t.2.2 else 0) + pairS nm ot x y ts := by
  unfold pairS
  rw [List.map_cons, List.sum_cons]
theorem pairS_snoc {nm ot x y : Str} (t : Str × Str × Int) (ts : List (Str × Str × Int)) : pairS nm ot x y (ts ++ [t]) = pairS nm ot x y ts + if rnm nm ot t.1 = x ∧ rnm nm ot t.2.1 = y then t.2.2 else 0 := by
  unfold pairS
  rw [List.map_append, List.sum_append]
  simp
theorem met_pos {nm ot x y : Str} : ∀ {ts : List (Str × Str × Int)}, (∀ t ∈ ts, 1 ≤ t.2.2) → 0 ≤ pairS nm ot x y ts ∧ (Met nm ot x y ts ↔ 0 < pairS nm ot x y ts)
  | [], _ => ⟨Int.le_refl _, ⟨(fun ⟨_, h, _⟩ => nomatch h), (fun h => absurd h (Int.lt_irrefl _))⟩⟩
  | t :: ts, h => by
    have ht := h t List.mem_cons_self
    obtain ⟨i1, i2⟩ := met_pos (nm := nm) (ot := ot) (x := x) (y := y) (ts := ts) fun s hs => h s (List.mem_cons_of_mem _ hs)
    rw [pairS_cons]
    by_cases c : rnm nm ot t.1 = x ∧ rnm nm ot t.2.1 = y
    · rw [if_pos c]
      exact ⟨by omega, fun _ => by omega, fun _ => ⟨t, List.mem_cons_self, c⟩⟩
    · rw [if_neg c, Int.zero_add]
      refine ⟨i1, fun ⟨s, hs, e⟩ => i2.mp ?_, fun z => ?_⟩
      · rcases List.mem_cons.mp hs with rfl | hs
        · exact absurd e c
        · exact ⟨s, hs, e⟩
      · obtain ⟨s, hs, e⟩ := i2.mpr z
        exact ⟨s, List.mem_cons_of_mem _ hs, e⟩
abbrev k2 (x y : Str) : List Key := [Sum.inr x, Sum.inr y]
/-- the dict of the pairs -/
def PD (nm ot : Str) (ts : List (Str × Str × Int)) (kvs : List (List Key × V)) : Prop :=
  (∀ x y, (Met nm ot x y ts → valV kvs (k2 x y) = some (.int (pairS nm ot x y ts))) ∧ (¬ Met nm ot x y ts → valV kvs (k2 x y) = none)) ∧
  (∀ k v, valV kvs k = some v → (∃ x y, k = (k2 x y)) ∧ ∃ i, v = .int i)
theorem PD.nil (nm ot : Str) : PD nm ot [] [] := ⟨fun x y => ⟨(fun ⟨_, h, _⟩ => nomatch h), (fun _ => rfl)⟩, fun k v h => nomatch h⟩
theorem PD.old {nm ot : Str} {ts : List (Str × Str × Int)} {kvs : List (List Key × V)} (h : PD nm ot ts kvs) (x y : Str) : (valV kvs (k2 x y)).getD (.int 0) = .int (pairS nm ot x y ts) := by
  by_cases c : Met nm ot x y ts
  · rw [(h.1 x y).1 c]; rfl
  · rw [(h.1 x y).2 c]
    have : ∀ ts : List (Str × Str × Int), ¬ Met nm ot x y ts → pairS nm ot x y ts = 0 := fun ts => by
      induction ts with
      | nil => intro _; rfl
      | cons t ts ih =>
        intro c
        rw [pairS_cons, if_neg fun z => c ⟨t, List.mem_cons_self, z⟩, ih fun ⟨s, hs, e⟩ => c ⟨s, List.mem_cons_of_mem _ hs, e⟩]
        rfl
    rw [this ts c]
    rfl
theorem PD.snoc {nm ot : Str} {ts : List (Str × Str × Int)} {kvs : List (List Key × V)} (h : PD nm ot ts kvs) (t : Str × Str × Int) : PD nm ot (ts ++ [t]) (putK kvs (k2 (rnm nm ot t.1) (rnm nm ot t.2.1)) (.int (pairS nm ot (rnm nm ot t.1) (rnm nm ot t.2.1) ts + t.2.2))) := by
  have inj : ∀ x y : Str, ((k2 x y) = (k2 (rnm nm ot t.1) (rnm nm ot t.2.1))) ↔ (rnm nm ot t.1 = x ∧ rnm nm ot t.2.1 = y) := fun x y => by
    constructor
    · intro e
      injection e with e1 e2
      injection e2 with e2 _
      injection e1 with e1
      injection e2 with e2
      exact ⟨e1.symm, e2.symm⟩
    · rintro ⟨rfl, rfl⟩; rfl
  refine ⟨fun x y => ?_, fun k v e => ?_⟩
  · rw [valV_put, pairS_snoc]
    by_cases c : rnm nm ot t.1 = x ∧ rnm nm ot t.2.1 = y
    · rw [if_pos ((inj x y).mpr c), if_pos c]
      refine ⟨fun _ => by rw [c.1, c.2], fun no => absurd ⟨t, List.mem_append_right _ List.mem_cons_self, c⟩ no⟩
    · rw [if_neg fun e => c ((inj x y).mp e), if_neg c, Int.add_zero]
      have m : Met nm ot x y (ts ++ [t]) ↔ Met nm ot x y ts := ⟨fun ⟨s, hs, e⟩ => by
        rcases List.mem_append.mp hs with hs | hs
        · exact ⟨s, hs, e⟩
        · rw [List.mem_singleton.mp hs] at e; exact absurd e c, fun ⟨s, hs, e⟩ => ⟨s, List.mem_append_left _ hs, e⟩⟩
      exact ⟨fun z => (h.1 x y).1 (m.mp z), fun z => (h.1 x y).2 fun z' => z (m.mpr z')⟩
  · rw [valV_put] at e
    split at e
    · rename_i c
      exact ⟨⟨_, _, c⟩, _, (Option.some.inj e).symm⟩
    · exact h.2 k v e
theorem put_len (kvs : List (List Key × V)) (k : List Key) (v : V) : (putK kvs k v).length ≤ kvs.length + 1 := by
  unfold putK
  split
  · rw [List.length_map]; omega
  · rw [List.length_append]; exact Nat.le_refl _
theorem PD.same {nm ot : Str} {ts us : List (Str × Str × Int)} {m1 m2 : List (List Key × V)} (h : PD nm ot ts m1) (g : PD nm ot us m2) (p1 : ∀ t ∈ ts, 1 ≤ t.2.2) (p2 : ∀ t ∈ us, 1 ≤ t.2.2) (e : ∀ x y, pairS nm ot x y ts = pairS nm ot x y us) (k : List Key) : valV m1 k = valV m2 k := by
  have one : ∀ x y, valV m1 (k2 x y) = valV m2 (k2 x y) := fun x y => by
    have mm1 := (met_pos (nm := nm) (ot := ot) (x := x) (y := y) p1).2
    have mm2 := (met_pos (nm := nm) (ot := ot) (x := x) (y := y) p2).2
    by_cases c : Met nm ot x y ts
    · rw [(h.1 x y).1 c, (g.1 x y).1 (mm2.mpr (by rw [← e]; exact mm1.mp c)), e]
    · rw [(h.1 x y).2 c, (g.1 x y).2 fun z => c (mm1.mpr (by rw [e]; exact mm2.mp z))]
  cases c1 : valV m1 k with
  | some v =>
    obtain ⟨⟨x, y, rfl⟩, _⟩ := h.2 k v c1
    rw [← c1, one]
  | none =>
    cases c2 : valV m2 k with
    | none => rfl
    | some v =>
      obtain ⟨⟨x, y, rfl⟩, _⟩ := g.2 k v c2
      rw [← c1, one, c2]
theorem eqH_od {K : PySem.W.Frag} {H : Hp} {n : Nat} {x y : AO} (hx : H x.1 = some (.tup (odV x.2))) (hy : H y.1 = some (.tup (odV y.2))) (e : x.2 = y.2) : EqH K H (n + 1) (rf x) (rf y) true := by
  by_cases c : x.1 = y.1
  · unfold rf; rw [c]; exact .same
  · rw [← e] at hy
    have := EqH.tup (K := K) (n := n) (fun _ => true) c (.inl (.inl hx)) (.inl (.inl hy)) rfl fun j hj => by
      have hj' : j < 7 := hj
      match j, hj' with
      | 0, _ => exact (show eqV (V.str x.2.n) (V.str x.2.n) = true by simp [eqV]) ▸ EqH.flat rfl rfl
      | 1, _ => exact (show eqV (V.str x.2.w) (V.str x.2.w) = true by simp [eqV]) ▸ EqH.flat rfl rfl
      | 2, _ => exact (show eqV (V.str x.2.s) (V.str x.2.s) = true by simp [eqV]) ▸ EqH.flat rfl rfl
      | 3, _ => exact (show eqV (V.int x.2.pr) (V.int x.2.pr) = true by simp [eqV]) ▸ EqH.flat rfl rfl
      | 4, _ => exact (show eqV (V.int x.2.l) (V.int x.2.l) = true by simp [eqV]) ▸ EqH.flat rfl rfl
      | 5, _ => exact (show eqV (V.int x.2.sh) (V.int x.2.sh) = true by simp [eqV]) ▸ EqH.flat rfl rfl
      | 6, _ => exact (show eqV (V.int x.2.pk) (V.int x.2.pk) = true by simp [eqV]) ▸ EqH.flat rfl rfl
    rwa [show ((List.range (odV x.2).length).all fun _ => true) = true by simp] at this
theorem eqH_ods {K : PySem.W.Frag} {H : Hp} {ps qs : List AO} (h1 : Ords H ps) (h2 : Ords H qs) (e : ps.map (·.2) = qs.map (·.2)) : (ps.map rf).length = (qs.map rf).length ∧ ∀ j, j < (ps.map rf).length → EqH K H 60 ((ps.map rf).getD j .non) ((qs.map rf).getD j .non) true := by
  have hl : ps.length = qs.length := by have := congrArg List.length e; simpa using this
  refine ⟨by rw [List.length_map, List.length_map, hl], fun j hj => ?_⟩
  rw [List.length_map] at hj
  have hj2 : j < qs.length := by omega
  rw [List.getD_eq_getElem?_getD, List.getD_eq_getElem?_getD, List.getElem?_map, List.getElem?_map, List.getElem?_eq_getElem hj, List.getElem?_eq_getElem hj2]
  refine eqH_od (h1 _ (List.getElem_mem hj)) (h2 _ (List.getElem_mem hj2)) ?_
  have := congrArg (fun l => l[j]?) e
  simp only [List.getElem?_map, List.getElem?_eq_getElem hj, List.getElem?_eq_getElem hj2, Option.map_some] at this
  exact Option.some.inj this

theorem flt_map {nm ot : Str} (ps : List AO) : (ps.filter fun x => oth nm ot x.2).map (·.2) = (ps.map (·.2)).filter (oth nm ot) := by
  rw [List.filter_map]
  rfl
theorem ords_flt {H : Hp} {ps : List AO} {f : AO → Bool} (h : Ords H ps) : Ords H (ps.filter f) := fun x hx => h x (List.mem_filter.mp hx).1
theorem two_in (nm ot : Str) (o : Od) : inV (V.str o.n) [V.str nm, V.str ot] = inn nm ot o := by
  unfold inn
  have e : inV (V.str o.n) [V.str nm, V.str ot] = (decide (nm = o.n) || (decide (ot = o.n) || false)) := rfl
  rw [e, Bool.or_false, ← Bool.decide_or]
  exact decide_eq_decide.mpr ⟨fun z => z.imp Eq.symm Eq.symm, fun z => z.imp Eq.symm Eq.symm⟩
theorem in_two (nm ot : Str) (o : Od) : (!inV (V.str o.n) [V.str nm, V.str ot]) = oth nm ot o := by
  rw [two_in]
  rfl
theorem lft_is {nm ot : Str} : ∀ (ps : List AO), ((ps.filter fun x => inn nm ot x.2).map fun p => p.2.l).sum = lft nm ot (ps.map (·.2))
  | [] => rfl
  | x :: ps => by
    have ih := lft_is (nm := nm) (ot := ot) ps
    rw [List.map_cons, lft_cons, List.filter_cons]
    by_cases c : inn nm ot x.2 = true
    · rw [if_pos c, if_pos c, List.map_cons, List.sum_cons, ih]
    · rw [if_neg c, if_neg c, ih, Int.zero_add]

section
variable {P : Program} {w : World} {K : PySem.W.Frag} {mg : Str → Option Value} {base : Heap} {T : Addr}
seal PySem.wpAny
theorem sc_ahead : FnScope ["side", "price", "other"] ["side", "price", "other"] (defScope (top 7)) := ⟨rfl, rfl, rfl, by decide +kernel, rfl, by decide +kernel, by decide +kernel⟩
def sp_ahead (K : PySem.W.Frag) : Sp := fun vs H Q _ => ∃ (s : Str) (p o : Int), vs = [.str s, .int p, .int o] ∧ Q (.bl (aheadB s p o)) H
theorem ok_ahead (d_ahead : Dv K mg "ahead" (top 7) ["side", "price", "other"]) (B : Bl mg) (C : Co mg) (R : Er K mg)  : FnOk P w K mg base CX0 1 d_ahead.f d_ahead.fd ["side", "price", "other"] (sp_ahead K) := by
  refine d_ahead.F.ok sc_ahead (fun vs H Q E h => ?_) (fun cdv A outer s H vs Q E hr h => ?_)
  · obtain ⟨_, _, _, rfl, _⟩ := h; rfl
  obtain ⟨sd, p, o, rfl, q⟩ := h
  refine ⟨_, (pss_cons (ps_if (pt_cmpR op_eq (pv 0) pe_str (nomark _)) (pss_one (ps_ret (pe_cmpR op_gt (pv 1) (pv 2) (nomark _)))) pss_nil) (pss_one (ps_ret (pe_cmpR op_lt (pv 1) (pv 2) (nomark _))))), ?_⟩
  unfold aheadB at q
  refine ⟨_, rfl, rfl, _, rfl, ?_⟩
  refine ite2 (fun c => ?_) (fun c => ?_)
  · rw [if_pos (by simpa using c)] at q
    exact ⟨_, rfl, _, rfl, _, _, rfl, rfl, q⟩
  · rw [if_neg (by simpa using c)] at q
    exact ⟨_, rfl, _, rfl, _, _, rfl, rfl, q⟩
theorem sc_allows : FnScope ["side", "limit", "price"] ["side", "limit", "price"] (defScope (top 8)) := ⟨rfl, rfl, rfl, by decide +kernel, rfl, by decide +kernel, by decide +kernel⟩
def sp_allows (K : PySem.W.Frag) : Sp := fun vs H Q _ => ∃ (s : Str) (l p : Int), vs = [.str s, .int l, .int p] ∧ Q (.bl (!aheadB s p l)) H
theorem ok_allows (d_allows : Dv K mg "allows" (top 8) ["side", "limit", "price"]) (B : Bl mg) (C : Co mg) (R : Er K mg) (d_ahead : Dv K mg "ahead" (top 7) ["side", "price", "other"]) (G_ahead : FnOk P w K mg base CX0 1 d_ahead.f d_ahead.fd ["side", "price", "other"] (sp_ahead K)) : FnOk P w K mg base CX0 2 d_allows.f d_allows.fd ["side", "limit", "price"] (sp_allows K) := by
  refine d_allows.F.ok sc_allows (fun vs H Q E h => ?_) (fun cdv A outer s H vs Q E hr h => ?_)
  · obtain ⟨_, _, _, rfl, _⟩ := h; rfl
  obtain ⟨sd, l, p, rfl, q⟩ := h
  refine ⟨_, (pss_one (ps_ret (pe_not (pe_call G_ahead (hr.mono (by decide)) rfl d_ahead.m d_ahead.F.kp d_ahead.b .nil pass0 (pa_cons (pv 0) (pa_cons (pv 2) (pa_cons (pv 1) pa_nil))))))), ?_⟩
  exact ⟨_, rfl, _, rfl, _, rfl, sd, p, l, rfl, _, rfl, q⟩
theorem sc_shown_anew : FnScope ["left", "peak"] ["left", "peak"] (defScope (top 9)) := ⟨rfl, rfl, rfl, by decide +kernel, rfl, by decide +kernel, by decide +kernel⟩
def sp_shown_anew (K : PySem.W.Frag) : Sp := fun vs H Q _ => ∃ (l pk : Int), vs = [.int l, .int pk] ∧ Q (.int (shw l pk)) H
theorem ok_shown_anew (d_shown_anew : Dv K mg "shown_anew" (top 9) ["left", "peak"]) (B : Bl mg) (C : Co mg) (R : Er K mg)  : FnOk P w K mg base CX0 1 d_shown_anew.f d_shown_anew.fd ["left", "peak"] (sp_shown_anew K) := by
  refine d_shown_anew.F.ok sc_shown_anew (fun vs H Q E h => ?_) (fun cdv A outer s H vs Q E hr h => ?_)
  · obtain ⟨_, _, rfl, _⟩ := h; rfl
  obtain ⟨l, pk, rfl, q⟩ := h
  refine ⟨_, (pss_cons (ps_if (pt_cmpR op_eq (pv 1) pe_int (nomark _)) (pss_one (ps_ret (pv 0))) pss_nil) (pss_one (ps_ret (pe_callB (call_min2 rfl) rfl B.b_min PyProof.Rows.boot_min (pa_cons (pv 1) (pa_cons (pv 0) pa_nil)))))), ?_⟩
  unfold shw at q
  refine ⟨_, rfl, rfl, _, rfl, ?_⟩
  refine ite2 (fun c => ?_) (fun c => ?_)
  · rw [if_pos (show pk = 0 by simpa using c)] at q
    exact ⟨_, rfl, q⟩
  · rw [if_neg (show ¬ pk = 0 by simpa using c)] at q
    exact ⟨_, rfl, _, rfl, _, _, rfl, q⟩
theorem sc_with_parts : FnScope ["order", "left", "shown"] ["order", "left", "shown"] (defScope (top 10)) := ⟨rfl, rfl, rfl, by decide +kernel, rfl, by decide +kernel, by decide +kernel⟩
def sp_with_parts (K : PySem.W.Frag) : Sp := fun vs H Q _ => ∃ (o : Addr) (n w s : Str) (pr l sh pk l' sh' : Int), vs = [.ref o, .int l', .int sh'] ∧ H o = some (.tup (ordV n w s pr l sh pk)) ∧ ∀ H' t, Same H H' → H' t = some (.tup (ordV n w s pr l' sh' pk)) → Q (.ref t) H'
theorem ok_with_parts (d_with_parts : Dv K mg "with_parts" (top 10) ["order", "left", "shown"]) (B : Bl mg) (C : Co mg) (R : Er K mg)  : FnOk P w K mg base CX0 1 d_with_parts.f d_with_parts.fd ["order", "left", "shown"] (sp_with_parts K) := by
  refine d_with_parts.F.ok sc_with_parts (fun vs H Q E h => ?_) (fun cdv A outer s H vs Q E hr h => ?_)
  · obtain ⟨_, _, _, _, _, _, _, _, _, _, rfl, _⟩ := h; rfl
  obtain ⟨o, n, w0, s0, pr, l, sh, pk, l', sh', rfl, ho, q⟩ := h
  refine ⟨_, (pss_one (ps_ret (pe_op op_catT (pe_slice sl_tup (pv 0) po_none (po_some (pe_glob (v := .int 4) rfl C.m_LEFT ⟨_, rfl⟩))) (pe_tup (pa_cons (pv 1) (pa_cons (pv 2) (pa_cons (pe_ix ix_tup (pv 0) (pe_glob (v := .int 6) rfl C.m_PEAK ⟨_, rfl⟩) (fun _ _ => rfl)) pa_nil))))))), ?_⟩
  refine ⟨_, rfl, _, rfl, o, _, rfl, .inl (.inl ho), ord_cut _ _ _ _ _ _ _, fun p hp => ?_⟩
  refine ⟨_, rfl, _, rfl, _, rfl, o, _, _, _, rfl, rfl, .inl (.inl (at_upd ho hp)), rfl, by walk_at "sz", fun t2 ht2 => ?_⟩
  refine ⟨p, t2, _, _, rfl, rfl, .inl (.inl (at_upd upd_same ht2)), .inl (.inl upd_same), (by intro z; cases z), by walk_at "sz", (by intro z; cases z), fun _ t ht => ?_⟩
  exact q _ t (same_upd' (same_upd' (same_upd hp) ht2) ht) upd_same
theorem sc_fresh : FnScope ["order", "left"] ["order", "left"] (defScope (top 6)) := ⟨rfl, rfl, rfl, by decide +kernel, rfl, by decide +kernel, by decide +kernel⟩
def sp_fresh (K : PySem.W.Frag) : Sp := fun vs H Q _ => ∃ (o : Addr) (n w s : Str) (pr l sh pk l' : Int), vs = [.ref o, .int l'] ∧ H o = some (.tup (ordV n w s pr l sh pk)) ∧ ∀ H' t, Same H H' → H' t = some (.tup (ordV n w s pr l' (shw l' pk) pk)) → Q (.ref t) H'
theorem ok_fresh (d_fresh : Dv K mg "fresh" (top 6) ["order", "left"]) (B : Bl mg) (C : Co mg) (R : Er K mg) (d_with_parts : Dv K mg "with_parts" (top 10) ["order", "left", "shown"]) (G_with_parts : FnOk P w K mg base CX0 1 d_with_parts.f d_with_parts.fd ["order", "left", "shown"] (sp_with_parts K)) (d_shown_anew : Dv K mg "shown_anew" (top 9) ["left", "peak"]) (G_shown_anew : FnOk P w K mg base CX0 1 d_shown_anew.f d_shown_anew.fd ["left", "peak"] (sp_shown_anew K)) : FnOk P w K mg base CX0 2 d_fresh.f d_fresh.fd ["order", "left"] (sp_fresh K) := by
  refine d_fresh.F.ok sc_fresh (fun vs H Q E h => ?_) (fun cdv A outer s H vs Q E hr h => ?_)
  · obtain ⟨_, _, _, _, _, _, _, _, _, rfl, _⟩ := h; rfl
  obtain ⟨o, n, w0, s0, pr, l, sh, pk, l', rfl, ho, q⟩ := h
  refine ⟨_, (pss_one (ps_ret (pe_call G_with_parts (hr.mono (by decide)) rfl d_with_parts.m d_with_parts.F.kp d_with_parts.b .nil pass0 (pa_cons (pv 0) (pa_cons (pv 1) (pa_cons (pe_call G_shown_anew (hr.mono (by decide)) rfl d_shown_anew.m d_shown_anew.F.kp d_shown_anew.b .nil pass0 (pa_cons (pv 1) (pa_cons (pe_ix ix_tup (pv 0) (pe_glob (v := .int 6) rfl C.m_PEAK ⟨_, rfl⟩) (fun _ _ => rfl)) pa_nil))) pa_nil)))))), ?_⟩
  exact ⟨_, rfl, _, rfl, _, rfl, _, rfl, o, _, _, _, rfl, rfl, .inl (.inl ho), rfl, _, _, rfl, o, n, w0, s0, pr, l, sh, pk, l', _, rfl, ho, q⟩
theorem sc_allowing : FnScope ["line", "price"] ["line", "price"] (defScope (top 17)) := ⟨rfl, rfl, rfl, by decide +kernel, rfl, by decide +kernel, by decide +kernel⟩
def sp_allowing (K : PySem.W.Frag) : Sp := fun vs H Q _ => ∃ (p : Addr) (ps : List AO) (price : Int), vs = [.ref p, .int price] ∧ SqL K H p (ps.map rf) ∧ Ords H ps ∧ ps.length ≤ 1000 ∧ ∀ H', Same H H' → Q (.int (psum (wOf price) ps)) H'
theorem ok_allowing (d_allowing : Dv K mg "allowing" (top 17) ["line", "price"]) (B : Bl mg) (C : Co mg) (R : Er K mg) (d_allows : Dv K mg "allows" (top 8) ["side", "limit", "price"]) (G_allows : FnOk P w K mg base CX0 2 d_allows.f d_allows.fd ["side", "limit", "price"] (sp_allows K)) : FnOk P w K mg base CX0 3 d_allowing.f d_allowing.fd ["line", "price"] (sp_allowing K) := by
  refine d_allowing.F.ok sc_allowing (fun vs H Q E h => ?_) (fun cdv A outer s H vs Q E hr h => ?_)
  · obtain ⟨_, _, _, rfl, _⟩ := h; rfl
  obtain ⟨p, ps, price, rfl, hS, hO, hl, q⟩ := h
  refine ⟨_, (pss_one (ps_ret (pe_callB (call_sum rfl) rfl B.b_sum PyProof.Rows.boot_sum (pa_cons (pe_lc (N := ["line", "price"]) (sc := defScope (top 17)) ⟨by decide +kernel, rfl, rfl, by decide +kernel, by decide +kernel, by decide +kernel, by decide +kernel⟩ rfl rfl rfl (pi_list (pv 0)) (fun _ _ _ _ _ => (pif_one (pt_val (pe_call G_allows (hr.mono (by decide)) rfl d_allows.m d_allows.F.kp d_allows.b .nil pass0 (pa_cons (pe_ix (ix_tupK (K := K) rfl) (pv 0) (pe_glob (v := .int 2) rfl C.m_SIDE ⟨_, rfl⟩) (fun _ _ => rfl)) (pa_cons (pe_ix (ix_tupK (K := K) rfl) (pv 0) (pe_glob (v := .int 3) rfl C.m_PRICE ⟨_, rfl⟩) (fun _ _ => rfl)) (pa_cons (pv 2) pa_nil)))) (fun _ => rfl)))) (fun _ _ _ _ _ => (pe_ix (ix_tupK (K := K) rfl) (pv 0) (pe_glob (v := .int 4) rfl C.m_LEFT ⟨_, rfl⟩) (fun _ _ => rfl)))) pa_nil)))), ?_⟩
  refine ⟨_, rfl, p, rfl, ⟨_, hS⟩, ?_⟩
  refine comp_map (fun p => !aheadB p.2.s price p.2.pr) (fun p => .int p.2.l) hS (szOk (by omega)) (fun x H' hx sm R R0 h1 h0 => ?_) (fun H' sm l hl' => ?_)
  · have hx' := sm _ _ (hO x hx)
    refine ⟨rfl, _, rfl, x.1, _, _, _, rfl, rfl, .inl (.inl hx'), rfl, _, rfl, x.1, _, _, _, rfl, rfl, .inl (.inl hx'), rfl, _, rfl, _, _, _, rfl, _, rfl, ?_⟩
    refine ite2 (fun c => ?_) (fun c => ?_)
    · exact ⟨_, rfl, x.1, _, _, _, rfl, rfl, .inl (.inl hx'), rfl, h1 c _ (Same.refl _)⟩
    · exact h0 (by simpa using c) _ (Same.refl _)
  · refine ⟨l, (ps.filter fun p => !aheadB p.2.s price p.2.pr).map fun p => p.2.l, rfl, .inl (.inl (by rw [upd_same, List.map_map]; rfl)), ?_⟩
    rw [wsum_is]
    exact q _ (same_upd' sm hl')
theorem sc_wanted : FnScope ["buys", "price"] ["buys", "price"] (defScope (top 12)) := ⟨rfl, rfl, rfl, by decide +kernel, rfl, by decide +kernel, by decide +kernel⟩
def sp_wanted (K : PySem.W.Frag) : Sp := fun vs H Q _ => ∃ (p : Addr) (ps : List AO) (price : Int), vs = [.ref p, .int price] ∧ SqL K H p (ps.map rf) ∧ Ords H ps ∧ ps.length ≤ 1000 ∧ ∀ H', Same H H' → Q (.int (psum (wOf price) ps)) H'
theorem ok_wanted (d_wanted : Dv K mg "wanted" (top 12) ["buys", "price"]) (B : Bl mg) (C : Co mg) (R : Er K mg) (d_allowing : Dv K mg "allowing" (top 17) ["line", "price"]) (G_allowing : FnOk P w K mg base CX0 3 d_allowing.f d_allowing.fd ["line", "price"] (sp_allowing K)) : FnOk P w K mg base CX0 4 d_wanted.f d_wanted.fd ["buys", "price"] (sp_wanted K) := by
  refine d_wanted.F.ok sc_wanted (fun vs H Q E h => ?_) (fun cdv A outer s H vs Q E hr h => ?_)
  · obtain ⟨_, _, _, rfl, _⟩ := h; rfl
  obtain ⟨p, ps, price, rfl, hS, hO, hl, q⟩ := h
  refine ⟨_, (pss_one (ps_ret (pe_call G_allowing (hr.mono (by decide)) rfl d_allowing.m d_allowing.F.kp d_allowing.b .nil pass0 (pa_cons (pv 0) (pa_cons (pv 1) pa_nil))))), ?_⟩
  exact ⟨_, rfl, _, rfl, p, ps, price, rfl, hS, hO, hl, q⟩
theorem sc_offered : FnScope ["sells", "price"] ["sells", "price"] (defScope (top 13)) := ⟨rfl, rfl, rfl, by decide +kernel, rfl, by decide +kernel, by decide +kernel⟩
def sp_offered (K : PySem.W.Frag) : Sp := fun vs H Q _ => ∃ (p : Addr) (ps : List AO) (price : Int), vs = [.ref p, .int price] ∧ SqL K H p (ps.map rf) ∧ Ords H ps ∧ ps.length ≤ 1000 ∧ ∀ H', Same H H' → Q (.int (psum (wOf price) ps)) H'
theorem ok_offered (d_offered : Dv K mg "offered" (top 13) ["sells", "price"]) (B : Bl mg) (C : Co mg) (R : Er K mg) (d_allowing : Dv K mg "allowing" (top 17) ["line", "price"]) (G_allowing : FnOk P w K mg base CX0 3 d_allowing.f d_allowing.fd ["line", "price"] (sp_allowing K)) : FnOk P w K mg base CX0 4 d_offered.f d_offered.fd ["sells", "price"] (sp_offered K) := by
  refine d_offered.F.ok sc_offered (fun vs H Q E h => ?_) (fun cdv A outer s H vs Q E hr h => ?_)
  · obtain ⟨_, _, _, rfl, _⟩ := h; rfl
  obtain ⟨p, ps, price, rfl, hS, hO, hl, q⟩ := h
  refine ⟨_, (pss_one (ps_ret (pe_call G_allowing (hr.mono (by decide)) rfl d_allowing.m d_allowing.F.kp d_allowing.b .nil pass0 (pa_cons (pv 0) (pa_cons (pv 1) pa_nil))))), ?_⟩
  exact ⟨_, rfl, _, rfl, p, ps, price, rfl, hS, hO, hl, q⟩
theorem sc_volume : FnScope ["buys", "sells", "price"] ["buys", "sells", "price"] (defScope (top 14)) := ⟨rfl, rfl, rfl, by decide +kernel, rfl, by decide +kernel, by decide +kernel⟩
def sp_volume (K : PySem.W.Frag) : Sp := fun vs H Q _ => ∃ (b : Addr) (pb : List AO) (s0 : Addr) (ps : List AO) (price : Int), vs = [.ref b, .ref s0, .int price] ∧ SqL K H b (pb.map rf) ∧ SqL K H s0 (ps.map rf) ∧ Ords H pb ∧ Ords H ps ∧ pb.length ≤ 100 ∧ ps.length ≤ 100 ∧ ∀ H', Same H H' → Q (.int (if psum (wOf price) ps < psum (wOf price) pb then psum (wOf price) ps else psum (wOf price) pb)) H'
theorem ok_volume (d_volume : Dv K mg "volume" (top 14) ["buys", "sells", "price"]) (B : Bl mg) (C : Co mg) (R : Er K mg) (d_offered : Dv K mg "offered" (top 13) ["sells", "price"]) (G_offered : FnOk P w K mg base CX0 4 d_offered.f d_offered.fd ["sells", "price"] (sp_offered K)) (d_wanted : Dv K mg "wanted" (top 12) ["buys", "price"]) (G_wanted : FnOk P w K mg base CX0 4 d_wanted.f d_wanted.fd ["buys", "price"] (sp_wanted K)) : FnOk P w K mg base CX0 5 d_volume.f d_volume.fd ["buys", "sells", "price"] (sp_volume K) := by
  refine d_volume.F.ok sc_volume (fun vs H Q E h => ?_) (fun cdv A outer s H vs Q E hr h => ?_)
  · obtain ⟨_, _, _, _, _, rfl, _⟩ := h; rfl
  obtain ⟨b, pb, s0, ps, price, rfl, hb, hs, hO1, hO2, l1, l2, q⟩ := h
  refine ⟨_, (pss_one (ps_ret (pe_callB (call_min2 rfl) rfl B.b_min PyProof.Rows.boot_min (pa_cons (pe_call G_wanted (hr.mono (by decide)) rfl d_wanted.m d_wanted.F.kp d_wanted.b .nil pass0 (pa_cons (pv 0) (pa_cons (pv 2) pa_nil))) (pa_cons (pe_call G_offered (hr.mono (by decide)) rfl d_offered.m d_offered.F.kp d_offered.b .nil pass0 (pa_cons (pv 1) (pa_cons (pv 2) pa_nil))) pa_nil))))), ?_⟩
  refine ⟨_, rfl, _, rfl, b, pb, price, rfl, hb, hO1, by omega, fun H1 s1 => ?_⟩
  refine ⟨_, rfl, _, rfl, s0, ps, price, rfl, s1.seq hs, hO2.same s1, by omega, fun H2 s2 => ?_⟩
  exact ⟨_, _, rfl, q _ (s1.trans s2)⟩
theorem sc_surplus : FnScope ["buys", "sells", "price"] ["buys", "sells", "price"] (defScope (top 15)) := ⟨rfl, rfl, rfl, by decide +kernel, rfl, by decide +kernel, by decide +kernel⟩
def sp_surplus (K : PySem.W.Frag) : Sp := fun vs H Q _ => ∃ (b : Addr) (pb : List AO) (s0 : Addr) (ps : List AO) (price : Int), vs = [.ref b, .ref s0, .int price] ∧ SqL K H b (pb.map rf) ∧ SqL K H s0 (ps.map rf) ∧ Ords H pb ∧ Ords H ps ∧ pb.length ≤ 100 ∧ ps.length ≤ 100 ∧ ∀ H', Same H H' → Q (.int (if psum (wOf price) pb - psum (wOf price) ps < 0 then -(psum (wOf price) pb - psum (wOf price) ps) else psum (wOf price) pb - psum (wOf price) ps)) H'
theorem ok_surplus (d_surplus : Dv K mg "surplus" (top 15) ["buys", "sells", "price"]) (B : Bl mg) (C : Co mg) (R : Er K mg) (d_wanted : Dv K mg "wanted" (top 12) ["buys", "price"]) (G_wanted : FnOk P w K mg base CX0 4 d_wanted.f d_wanted.fd ["buys", "price"] (sp_wanted K)) (d_offered : Dv K mg "offered" (top 13) ["sells", "price"]) (G_offered : FnOk P w K mg base CX0 4 d_offered.f d_offered.fd ["sells", "price"] (sp_offered K)) : FnOk P w K mg base CX0 5 d_surplus.f d_surplus.fd ["buys", "sells", "price"] (sp_surplus K) := by
  refine d_surplus.F.ok sc_surplus (fun vs H Q E h => ?_) (fun cdv A outer s H vs Q E hr h => ?_)
  · obtain ⟨_, _, _, _, _, rfl, _⟩ := h; rfl
  obtain ⟨b, pb, s0, ps, price, rfl, hb, hs, hO1, hO2, l1, l2, q⟩ := h
  refine ⟨_, (pss_one (ps_ret (pe_callB call_abs rfl B.b_abs PyProof.Rows.boot_abs (pa_cons (pe_op op_sub (pe_call G_wanted (hr.mono (by decide)) rfl d_wanted.m d_wanted.F.kp d_wanted.b .nil pass0 (pa_cons (pv 0) (pa_cons (pv 2) pa_nil))) (pe_call G_offered (hr.mono (by decide)) rfl d_offered.m d_offered.F.kp d_offered.b .nil pass0 (pa_cons (pv 1) (pa_cons (pv 2) pa_nil)))) pa_nil)))), ?_⟩
  refine ⟨_, rfl, _, rfl, b, pb, price, rfl, hb, hO1, by omega, fun H1 s1 => ?_⟩
  refine ⟨_, rfl, _, rfl, s0, ps, price, rfl, s1.seq hs, hO2.same s1, by omega, fun H2 s2 => ?_⟩
  exact ⟨_, _, rfl, rfl, _, rfl, q _ (s1.trans s2)⟩
theorem sc_limits : FnScope ["buys", "sells"] ["buys", "sells"] (defScope (top 16)) := ⟨rfl, rfl, rfl, by decide +kernel, rfl, by decide +kernel, by decide +kernel⟩
def sp_limits (K : PySem.W.Frag) : Sp := fun vs H Q _ => ∃ (b : Addr) (pb : List AO) (s0 : Addr) (ps : List AO), vs = [.ref b, .ref s0] ∧ H b = some (.lst (pb.map rf)) ∧ H s0 = some (.lst (ps.map rf)) ∧ Ords H pb ∧ Ords H ps ∧ pb.length + ps.length ≤ 200 ∧ Few pb ps ∧ ∀ (H' : Hp) (L : Addr) (ms : List Int), Same H H' → H' L = some (.lst (ms.map V.int)) → ms.Pairwise (· < ·) → (∀ z, z ∈ ms ↔ z ∈ prO (pb ++ ps)) → Q (.ref L) H'
theorem ok_limits (d_limits : Dv K mg "limits" (top 16) ["buys", "sells"]) (B : Bl mg) (C : Co mg) (R : Er K mg)  : FnOk P w K mg base CX0 1 d_limits.f d_limits.fd ["buys", "sells"] (sp_limits K) := by
  refine d_limits.F.ok sc_limits (fun vs H Q E h => ?_) (fun cdv A outer s H vs Q E hr h => ?_)
  · obtain ⟨_, _, _, _, rfl, _⟩ := h; rfl
  obtain ⟨b, pb, s0, ps, rfl, hb, hs, hO1, hO2, hl, hf, q⟩ := h
  refine ⟨_, (pss_one (ps_ret (pe_sortedSetU rfl rfl B.b_sorted rfl B.b_set (pe_lc (N := ["buys", "sells"]) (sc := defScope (top 16)) ⟨by decide +kernel, rfl, rfl, by decide +kernel, by decide +kernel, by decide +kernel, by decide +kernel⟩ rfl rfl rfl (pi_list (pe_op op_cat (pv 0) (pv 1))) (fun _ _ _ _ _ => pif_nil) (fun _ _ _ _ _ => (pe_ix (ix_tupK (K := K) rfl) (pv 0) (pe_glob (v := .int 3) rfl C.m_PRICE ⟨_, rfl⟩) (fun _ _ => rfl))))))), ?_⟩
  refine ⟨_, rfl, _, rfl, b, s0, _, _, rfl, rfl, hb, hs, by rw [List.length_map, List.length_map]; exact szOk (by omega), fun p1 hp1 => ?_⟩
  have s1 := same_upd (u := .lst (pb.map rf ++ ps.map rf)) hp1
  have k1 : upd H p1 (.lst (pb.map rf ++ ps.map rf)) p1 = some (.lst ((pb ++ ps).map rf)) := by rw [upd_same, List.map_append]
  have hO := (hO1.app hO2).same s1
  generalize upd H p1 (.lst (pb.map rf ++ ps.map rf)) = H1 at s1 k1 hO
  refine ⟨p1, rfl, ⟨_, .inl (.inl k1)⟩, ?_⟩
  refine comp_map (fun _ => true) (fun x : AO => V.int x.2.pr) (.inl (.inl k1)) (szOk (by rw [List.length_append]; omega)) (fun x H' hx sm R R0 h1 _ => ?_) (fun H2 s2 l hl' => ?_)
  · have hx' := sm _ _ (hO x hx)
    exact ⟨rfl, iteT (B := R0 H') ⟨_, rfl, x.1, _, _, _, rfl, rfl, .inl (.inl hx'), rfl, h1 rfl _ (Same.refl _)⟩⟩
  rw [show (pb ++ ps).filter (fun _ => true) = pb ++ ps from List.filter_eq_self.mpr fun _ _ => rfl]
  have s3 := same_upd' (u := .lst ((pb ++ ps).map fun x : AO => V.int x.2.pr)) s2 hl'
  refine ⟨l, prO (pb ++ ps), rfl, .inl (.inl (by rw [upd_same]; unfold prO; rw [List.map_map]; rfl)), by unfold prO; rw [List.length_map, List.length_append]; omega, hf, fun L ms hL pw mm => ?_⟩
  exact q _ L ms (s1.trans (s3.trans (same_upd hL))) upd_same pw mm
theorem sc_rank_of : FnScope ["buys", "sells", "near", "price"] ["buys", "sells", "near", "price"] (defScope (top 21)) := ⟨rfl, rfl, rfl, by decide +kernel, rfl, by decide +kernel, by decide +kernel⟩
def sp_rank_of (K : PySem.W.Frag) : Sp := fun vs H Q _ => ∃ (b : Addr) (pb : List AO) (s0 : Addr) (ps : List AO) (near price : Int), vs = [.ref b, .ref s0, .int near, .int price] ∧ SqL K H b (pb.map rf) ∧ SqL K H s0 (ps.map rf) ∧ Ords H pb ∧ Ords H ps ∧ pb.length ≤ 100 ∧ ps.length ≤ 100 ∧ ∀ (H' : Hp) (t : Addr), Same H H' → H' t = some (.tup ((rkO pb ps near price).map V.int)) → Q (.ref t) H'
theorem ok_rank_of (d_rank_of : Dv K mg "rank_of" (top 21) ["buys", "sells", "near", "price"]) (B : Bl mg) (C : Co mg) (R : Er K mg) (d_surplus : Dv K mg "surplus" (top 15) ["buys", "sells", "price"]) (G_surplus : FnOk P w K mg base CX0 5 d_surplus.f d_surplus.fd ["buys", "sells", "price"] (sp_surplus K)) (d_volume : Dv K mg "volume" (top 14) ["buys", "sells", "price"]) (G_volume : FnOk P w K mg base CX0 5 d_volume.f d_volume.fd ["buys", "sells", "price"] (sp_volume K)) : FnOk P w K mg base CX0 6 d_rank_of.f d_rank_of.fd ["buys", "sells", "near", "price"] (sp_rank_of K) := by
  refine d_rank_of.F.ok sc_rank_of (fun vs H Q E h => ?_) (fun cdv A outer s H vs Q E hr h => ?_)
  · obtain ⟨_, _, _, _, _, _, rfl, _⟩ := h; rfl
  obtain ⟨b, pb, s0, ps, near, price, rfl, hb, hs, hO1, hO2, l1, l2, q⟩ := h
  refine ⟨_, (pss_one (ps_ret (pe_tup (pa_cons (pe_un un_neg (pe_call G_volume (hr.mono (by decide)) rfl d_volume.m d_volume.F.kp d_volume.b .nil pass0 (pa_cons (pv 0) (pa_cons (pv 1) (pa_cons (pv 3) pa_nil))))) (pa_cons (pe_call G_surplus (hr.mono (by decide)) rfl d_surplus.m d_surplus.F.kp d_surplus.b .nil pass0 (pa_cons (pv 0) (pa_cons (pv 1) (pa_cons (pv 3) pa_nil)))) (pa_cons (pe_callB call_abs rfl B.b_abs PyProof.Rows.boot_abs (pa_cons (pe_op op_sub (pv 3) (pv 2)) pa_nil)) (pa_cons (pv 3) pa_nil))))))), ?_⟩
  refine ⟨_, rfl, _, rfl, _, rfl, b, pb, s0, ps, price, rfl, hb, hs, hO1, hO2, l1, l2, fun H1 s1 => ?_⟩
  refine ⟨_, rfl, ?_⟩
  refine ⟨_, rfl, _, rfl, _, rfl, b, pb, s0, ps, price, rfl, s1.seq hb, s1.seq hs, hO1.same s1, hO2.same s1, l1, l2, fun H2 s2 => ?_⟩
  refine ⟨_, rfl, _, rfl, _, _, rfl, rfl, _, rfl, _, rfl, by walk_at "sz", fun t ht => ?_⟩
  exact q _ t (s1.trans (s2.trans (same_upd ht))) upd_same
theorem sc_call_price : FnScope ["buys", "sells", "near", "prices", "best"] ["buys", "sells", "near"] (defScope (top 19)) := ⟨rfl, rfl, rfl, by decide +kernel, rfl, by decide +kernel, by decide +kernel⟩
def sp_call_price (K : PySem.W.Frag) (T : Addr) : Sp := fun vs H Q _ => ∃ (b : Addr) (pb : List AO) (s0 : Addr) (ps : List AO) (near : Int), vs = [.ref b, .ref s0, .int near] ∧ H b = some (.lst (pb.map rf)) ∧ H s0 = some (.lst (ps.map rf)) ∧ Ords H pb ∧ Ords H ps ∧ (pb.length ≤ 100 ∧ ps.length ≤ 100 ∧ Few pb ps) ∧ (∀ x ∈ pb, 1 ≤ x.2.l) ∧ (∀ x ∈ ps, 1 ≤ x.2.l) ∧ TabK QN LP T H ∧ ∀ (H' : Hp) (v : V), SameT T H H' → TabK QN LP T H' → DueOk pb ps near (prO (pb ++ ps)) v → Q v H'
theorem ok_call_price (d_call_price : Dv K mg "call_price" (top 19) ["buys", "sells", "near"]) (B : Bl mg) (C : Co mg) (R : Er K mg) (d_rank_of : Dv K mg "rank_of" (top 21) ["buys", "sells", "near", "price"]) (G_rank_of : FnOk P w K mg base CX0 6 d_rank_of.f d_rank_of.fd ["buys", "sells", "near", "price"] (sp_rank_of K)) (d_limits : Dv K mg "limits" (top 16) ["buys", "sells"]) (G_limits : FnOk P w K mg base CX0 1 d_limits.f d_limits.fd ["buys", "sells"] (sp_limits K)) (d_volume : Dv K mg "volume" (top 14) ["buys", "sells", "price"]) (G_volume : FnOk P w K mg base CX0 5 d_volume.f d_volume.fd ["buys", "sells", "price"] (sp_volume K)) {cT : Addr} (hc : d_call_price.fd.code = .ref cT) (hC : PySem.W.codeHdIn K cT T = true) (hB : BM mg base) : FnOk P w K mg base CX0 9 d_call_price.f d_call_price.fd ["buys", "sells", "near"] (sp_call_price K T) := by
  refine d_call_price.F.okC sc_call_price (fun vs H Q E h => ?_) (fun A outer s H vs Q E hr h => ?_)
  · obtain ⟨_, _, _, _, _, rfl, _⟩ := h; rfl
  obtain ⟨b, pb, s0, ps, near, rfl, hb, hs, hO1, hO2, ⟨l1, l2, l3⟩, g1, g2, hT, q⟩ := h
  refine ⟨_, (pss_cons (ps_set (i := 3) sc_call_price.nd rfl (Or.inl rfl) (pe_call G_limits (hr.mono (by decide)) rfl d_limits.m d_limits.F.kp d_limits.b .nil pass0 (pa_cons (pv 0) (pa_cons (pv 1) pa_nil)))) (pss_cons (ps_if (pt_cmpR op_eq (pe_callB call_len_seq rfl B.b_len PySem.boot_len (pa_cons (pv 3) pa_nil)) pe_int (nomark _)) (pss_one (ps_ret pe_non)) pss_nil) (pss_cons (ps_set (i := 4) sc_call_price.nd rfl (Or.inl rfl) (pe_minK (ib := 0) (is := 1) (im := 2) (E := fun _ _ _ => False) G_rank_of d_rank_of.b (hr.mono (by decide)) (fun _ _ _ _ _ z => z) d_rank_of.m d_rank_of.F.kp hc hC hB rfl rfl rfl rfl rfl rfl rfl B.b_min (pa_cons (pv 3) pa_nil))) (pss_cons (ps_if (pt_cmpR op_eq (pe_call G_volume (hr.mono (by decide)) rfl d_volume.m d_volume.F.kp d_volume.b .nil pass0 (pa_cons (pv 0) (pa_cons (pv 1) (pa_cons (pv 4) pa_nil)))) pe_int (nomark _)) (pss_one (ps_ret pe_non)) pss_nil) (pss_one (ps_ret (pv 4))))))), ?_⟩
  refine ⟨_, rfl, _, rfl, b, pb, s0, ps, rfl, hb, hs, hO1, hO2, by omega, l3, fun H1 L ms s1 hL pw mm => ?_⟩
  have hT1 := hT.same s1
  have hb1 := s1 _ _ hb
  have hs1 := s1 _ _ hs
  have hO1' := hO1.same s1
  have hO2' := hO2.same s1
  refine ⟨_, rfl, L, _, rfl, .inl (.inl (.inl hL)), rfl, _, rfl, ?_⟩
  refine ite2 (fun c => ?_) (fun c => ?_)
  · have e : ms = [] := by
      have : (ms.map V.int).length = 0 := by simpa using c
      rw [List.length_map] at this
      exact List.length_eq_zero_iff.mp this
    refine q _ _ (SameT.of s1) hT1 (.inl ⟨rfl, fun p hp => ?_⟩)
    have := (mm p).mpr hp
    rw [e] at this
    cases this
  have hz : 0 < ms.length := by
    have : ¬ (ms.map V.int).length = 0 := by simpa using c
    rw [List.length_map] at this
    omega
  refine ⟨_, rfl, _, rfl, L, ms, rkO pb ps near, .ref b, .ref s0, .int near, rfl, .inl (.inl hL), hz, fun _ => rfl, rfl, rfl, rfl, hT1, tab_neL hT1 hL, fun H' n sm hn => ?_, fun H' n sm tk hn best => ?_⟩
  · exact ⟨b, pb, s0, ps, near, n, rfl, .inl (.inl (lT hT1 sm hb1)), .inl (.inl (lT hT1 sm hs1)), ordsT hT1 sm hO1', ordsT hT1 sm hO2', l1, l2, fun H'' t s2 ht => ⟨s2, t, rfl, ht⟩⟩
  have nq := (mm n).mp hn
  have best' : ∀ x ∈ prO (pb ++ ps), HT.lexLt (rkO pb ps near x) (rkO pb ps near n) = false := fun x hx => best x ((mm x).mpr hx)
  refine ⟨_, rfl, _, rfl, _, rfl, b, pb, s0, ps, n, rfl, .inl (.inl (lT hT1 sm hb1)), .inl (.inl (lT hT1 sm hs1)), ordsT hT1 sm hO1', ordsT hT1 sm hO2', l1, l2, fun H2 s2 => ?_⟩
  have smA : SameT T H H2 := (SameT.of s1).trans (sm.trans (SameT.of s2))
  refine ⟨rfl, _, rfl, ?_⟩
  refine ite2 (fun c => ?_) (fun c => ?_)
  · have e : volO pb ps n = 0 := by unfold volO; simpa using c
    refine q _ _ smA (tk.same s2) (.inl ⟨rfl, fun p hp => ?_⟩)
    have := rk_vol (best' p hp)
    omega
  · have e : ¬ volO pb ps n = 0 := by unfold volO; simpa using c
    have := vol_nn (p := n) g1 g2
    exact ⟨_, rfl, q _ _ smA (tk.same s2) (.inr ⟨n, rfl, nq, by omega, fun x hx _ => best' x hx⟩)⟩
theorem sc_traded : FnScope ["line", "amount", "first", "others"] ["line", "amount"] (defScope (top 22)) := ⟨rfl, rfl, rfl, by decide +kernel, rfl, by decide +kernel, by decide +kernel⟩
def sp_traded (K : PySem.W.Frag) : Sp := fun vs H Q _ => ∃ (p : Addr) (x : AO) (ps : List AO) (am : Int), vs = [.ref p, .int am] ∧ H p = some (.lst ((x :: ps).map rf)) ∧ H x.1 = some (.tup (odV x.2)) ∧ ps.length ≤ 1000 ∧ ∀ (H' : Hp) (p' : Addr) (qs : List AO), Same H H' → H p' = none → H' p' = some (.lst (qs.map rf)) → (x.2.l = am → qs = ps) → (¬ x.2.l = am → ∃ t, qs = (t, frO x.2 (x.2.l - am)) :: ps ∧ H' t = some (.tup (odV (frO x.2 (x.2.l - am))))) → Q (.ref p') H'
theorem ok_traded (d_traded : Dv K mg "traded" (top 22) ["line", "amount"]) (B : Bl mg) (C : Co mg) (R : Er K mg) (d_fresh : Dv K mg "fresh" (top 6) ["order", "left"]) (G_fresh : FnOk P w K mg base CX0 2 d_fresh.f d_fresh.fd ["order", "left"] (sp_fresh K)) : FnOk P w K mg base CX0 3 d_traded.f d_traded.fd ["line", "amount"] (sp_traded K) := by
  refine d_traded.F.ok sc_traded (fun vs H Q E h => ?_) (fun cdv A outer s H vs Q E hr h => ?_)
  · obtain ⟨_, _, _, _, rfl, _⟩ := h; rfl
  obtain ⟨p, x, ps, am, rfl, hp, hx, hl, q⟩ := h
  refine ⟨_, (pss_cons (ps_set (i := 2) sc_traded.nd rfl (Or.inl rfl) (pe_ix ix_list (pv 0) pe_int (fun _ _ => rfl))) (pss_cons (ps_set (i := 3) sc_traded.nd rfl (Or.inl rfl) (pe_slice sl_list (pv 0) (po_some pe_int) po_none)) (pss_cons (ps_if (pt_cmpR op_eq (pe_ix ix_tup (pv 2) (pe_glob (v := .int 4) rfl C.m_LEFT ⟨_, rfl⟩) (fun _ _ => rfl)) (pv 1) (nomark _)) (pss_one (ps_ret (pv 3))) pss_nil) (pss_one (ps_ret (pe_op op_cat (pe_lst (pa_cons (pe_call G_fresh (hr.mono (by decide)) rfl d_fresh.m d_fresh.F.kp d_fresh.b .nil pass0 (pa_cons (pv 2) (pa_cons (pe_op op_sub (pe_ix ix_tup (pv 2) (pe_glob (v := .int 4) rfl C.m_LEFT ⟨_, rfl⟩) (fun _ _ => rfl)) (pv 1)) pa_nil))) pa_nil)) (pv 3))))))), ?_⟩
  refine ⟨_, rfl, p, _, _, _, rfl, rfl, .inl (.inl hp), at_zero x ps, ?_⟩
  refine ⟨_, rfl, _, rfl, p, _, rfl, .inl (.inl hp), fun p1 hp1 => ?_⟩
  rw [cut_tail1]
  have s1 := same_upd (u := .lst (ps.map rf)) hp1
  have k1 : upd H p1 (.lst (ps.map rf)) p1 = some (.lst (ps.map rf)) := upd_same
  generalize upd H p1 (.lst (ps.map rf)) = H1 at s1 k1
  have hx1 := s1 _ _ hx
  refine ⟨_, rfl, x.1, _, _, _, rfl, rfl, .inl (.inl hx1), rfl, _, rfl, rfl, _, rfl, ?_⟩
  refine ite2 (fun c => ?_) (fun c => ?_)
  · have e : x.2.l = am := by simpa using c
    exact ⟨_, rfl, q _ p1 ps s1 hp1 k1 (fun _ => rfl) fun z => absurd e z⟩
  have e : ¬ x.2.l = am := by simpa using c
  refine ⟨_, rfl, _, rfl, x.1, _, _, _, rfl, rfl, .inl (.inl hx1), rfl, _, rfl, _, _, rfl, rfl, x.1, x.2.n, x.2.w, x.2.s, x.2.pr, x.2.l, x.2.sh, x.2.pk, _, rfl, hx1, fun H2 t s2 ht => ?_⟩
  refine ⟨by walk_at "sz", fun p2 hp2 => ?_⟩
  have s3 := same_upd (u := .lst [V.ref t]) hp2
  refine ⟨_, rfl, p2, p1, _, _, rfl, rfl, upd_same, s3 _ _ (s2 _ _ k1), by rw [List.length_map]; exact szOk (by show 1 + _ ≤ _; omega), fun p3 hp3 => ?_⟩
  have s4 := same_upd' (u := .lst ([V.ref t] ++ ps.map rf)) s3 hp3
  refine q _ p3 ((t, frO x.2 (x.2.l - am)) :: ps) (s1.trans (s2.trans s4)) (s1.free (s2.free (s3.free hp3))) upd_same (fun z => absurd z e) fun _ => ⟨t, rfl, s4 _ _ ht⟩
theorem sc_called : FnScope ["buys", "sells", "near", "price", "trades", "buyers", "sellers", "left", "amount"] ["buys", "sells", "near"] (defScope (top 20)) := ⟨rfl, rfl, rfl, by decide +kernel, rfl, by decide +kernel, by decide +kernel⟩
def sp_called (K : PySem.W.Frag) (T : Addr) : Sp := fun vs H Q _ => ∃ (b : Addr) (pb : List AO) (s0 : Addr) (ps : List AO) (near : Int), vs = [.ref b, .ref s0, .int near] ∧ H b = some (.lst (pb.map rf)) ∧ H s0 = some (.lst (ps.map rf)) ∧ Ords H pb ∧ Ords H ps ∧ (pb.length ≤ 100 ∧ ps.length ≤ 100 ∧ Few pb ps) ∧ (∀ x ∈ pb, 1 ≤ x.2.l) ∧ (∀ x ∈ ps, 1 ≤ x.2.l) ∧ TabK QN LP T H ∧
  ∀ (H' : Hp) (t : Addr) (v : V) (L1 L2 L3 : Addr) (ts : List TR) (qb qs : List AO) (W : Int), SameT T H H' → TabK QN LP T H' → H' t = some (.tup [v, .ref L1, .ref L2, .ref L3]) → H L1 = none → H L2 = none → H L3 = none → L2 ≠ L3 → H' L1 = some (.lst (ts.map trR)) → H' L2 = some (.lst (qb.map rf)) → H' L3 = some (.lst (qs.map rf)) → Trs H' ts → Ords H' qb → Ords H' qs →
    DueOk pb ps near (prO (pb ++ ps)) v → VolIs pb ps v W → qb.map (·.2) = aft (pb.map (·.2)) W → qs.map (·.2) = aft (ps.map (·.2)) W → Trd (pb.map (·.2)) (ps.map (·.2)) W (ts.map (·.2)) W → (W = 0 → qb = pb ∧ qs = ps ∧ ts = []) → ts.length ≤ 201 → Q (.ref t) H'
theorem ok_called (d_called : Dv K mg "called" (top 20) ["buys", "sells", "near"]) (B : Bl mg) (C : Co mg) (R : Er K mg) (d_call_price : Dv K mg "call_price" (top 19) ["buys", "sells", "near"]) (G_call_price : FnOk P w K mg base CX0 9 d_call_price.f d_call_price.fd ["buys", "sells", "near"] (sp_call_price K T)) (d_volume : Dv K mg "volume" (top 14) ["buys", "sells", "price"]) (G_volume : FnOk P w K mg base CX0 5 d_volume.f d_volume.fd ["buys", "sells", "price"] (sp_volume K)) (d_traded : Dv K mg "traded" (top 22) ["line", "amount"]) (G_traded : FnOk P w K mg base CX0 3 d_traded.f d_traded.fd ["line", "amount"] (sp_traded K)) : FnOk P w K mg base CX0 10 d_called.f d_called.fd ["buys", "sells", "near"] (sp_called K T) := by
  refine d_called.F.ok sc_called (fun vs H Q E h => ?_) (fun cdv A outer s H vs Q E hr h => ?_)
  · obtain ⟨_, _, _, _, _, rfl, _⟩ := h; rfl
  obtain ⟨b, pb, s0, ps, near, rfl, hb, hs, hO1, hO2, ⟨l1, l2, l3⟩, g1, g2, hT, q⟩ := h
  refine ⟨_, (pss_cons (ps_set (i := 3) sc_called.nd rfl (Or.inl rfl) (pe_call G_call_price (hr.mono (by decide)) rfl d_call_price.m d_call_price.F.kp d_call_price.b .nil pass0 (pa_cons (pv 0) (pa_cons (pv 1) (pa_cons (pv 2) pa_nil))))) (pss_cons (ps_set (i := 4) sc_called.nd rfl (Or.inl rfl) (pe_lst pa_nil)) (pss_cons (ps_set (i := 5) sc_called.nd rfl (Or.inl rfl) (pe_callTy call_list_of rfl B.b_list PyProof.Rows.boot_list (pa_cons (pv 0) pa_nil))) (pss_cons (ps_set (i := 6) sc_called.nd rfl (Or.inl rfl) (pe_callTy call_list_of rfl B.b_list PyProof.Rows.boot_list (pa_cons (pv 1) pa_nil))) (pss_cut (ps_set (i := 7) sc_called.nd rfl (Or.inl rfl) (pe_ifExp (pt_cmpR op_isN (pv 3) pe_non (nomark _)) pe_int (pe_call G_volume (hr.mono (by decide)) rfl d_volume.m d_volume.F.kp d_volume.b .nil pass0 (pa_cons (pv 0) (pa_cons (pv 1) (pa_cons (pv 3) pa_nil)))))) (pss_cons (ps_while PassesOwn.never (pt_cmpR op_gt (pv 7) pe_int (nomark _)) (pss_cons (ps_set (i := 8) sc_called.nd rfl (Or.inl rfl) (pe_callB (call_min3 rfl) rfl B.b_min PyProof.Rows.boot_min (pa_cons (pe_ix ix_tup (pe_ix ix_list (pv 5) pe_int (fun _ _ => rfl)) (pe_glob (v := .int 4) rfl C.m_LEFT ⟨_, rfl⟩) (fun _ _ => rfl)) (pa_cons (pe_ix ix_tup (pe_ix ix_list (pv 6) pe_int (fun _ _ => rfl)) (pe_glob (v := .int 4) rfl C.m_LEFT ⟨_, rfl⟩) (fun _ _ => rfl)) (pa_cons (pv 7) pa_nil))))) (pss_cons (ps_expr (pe_bm PySem.F.plainAttrs_list PySem.F.slot_list_append PySem.F.type_list_append mt_append (pv 4) (pa_cons (pe_tup (pa_cons (pe_ix ix_tup (pe_ix ix_list (pv 5) pe_int (fun _ _ => rfl)) (pe_glob (v := .int 0) rfl C.m_NAME ⟨_, rfl⟩) (fun _ _ => rfl)) (pa_cons (pe_ix ix_tup (pe_ix ix_list (pv 6) pe_int (fun _ _ => rfl)) (pe_glob (v := .int 0) rfl C.m_NAME ⟨_, rfl⟩) (fun _ _ => rfl)) (pa_cons (pv 8) pa_nil)))) pa_nil))) (pss_cons (ps_set (i := 5) sc_called.nd rfl (Or.inl rfl) (pe_call G_traded (hr.mono (by decide)) rfl d_traded.m d_traded.F.kp d_traded.b .nil pass0 (pa_cons (pv 5) (pa_cons (pv 8) pa_nil)))) (pss_cons (ps_set (i := 6) sc_called.nd rfl (Or.inl rfl) (pe_call G_traded (hr.mono (by decide)) rfl d_traded.m d_traded.F.kp d_traded.b .nil pass0 (pa_cons (pv 6) (pa_cons (pv 8) pa_nil)))) (pss_one (ps_set (i := 7) sc_called.nd rfl (Or.inl rfl) (pe_op op_sub (pv 7) (pv 8))))))))) (pss_one (ps_ret (pe_tup (pa_cons (pv 3) (pa_cons (pv 4) (pa_cons (pv 5) (pa_cons (pv 6) pa_nil))))))))))))), ?_⟩
  refine ⟨_, rfl, _, rfl, _, rfl, b, pb, s0, ps, near, rfl, hb, hs, hO1, hO2, ⟨l1, l2, l3⟩, g1, g2, hT, fun H1 v sT tk due => ?_⟩
  have hb := lT hT sT hb
  have hs := lT hT sT hs
  have hO1 := ordsT hT sT hO1
  have hO2 := ordsT hT sT hO2
  have free1 : ∀ {x : Addr}, H1 x = none → H x = none := fun {x} hx => by
    cases e : H x with
    | none => rfl
    | some o =>
      by_cases z : x = T
      · obtain ⟨tp, ht, _⟩ := tk
        rw [z, ht] at hx; cases hx
      · rw [sT _ _ z e] at hx; cases hx
  refine ⟨by walk_at "sz", fun L1 hL1 => ?_⟩
  have sA := same_upd (u := .lst []) hL1
  refine ⟨_, rfl, b, _, rfl, .inl (.inl (.inl (sA _ _ hb))), fun p5 hp5 => ?_⟩
  have sB := same_upd' (u := .lst (pb.map rf)) sA hp5
  refine ⟨_, rfl, s0, _, rfl, .inl (.inl (.inl (sB _ _ hs))), fun p6 hp6 => ?_⟩
  have sC := same_upd' (u := .lst (ps.map rf)) sB hp6
  have n5 : p5 ≠ L1 := (ne_of_none (H := upd H1 L1 (.lst [])) upd_same hp5).symm
  have n6 : p6 ≠ L1 := (ne_of_none (H := upd (upd H1 L1 (.lst [])) p5 (.lst (pb.map rf))) (at_upd upd_same hp5) hp6).symm
  have n56 : p5 ≠ p6 := ne_of_none (H := upd (upd H1 L1 (.lst [])) p5 (.lst (pb.map rf))) upd_same hp6
  have k1 : upd (upd (upd H1 L1 (.lst [])) p5 (.lst (pb.map rf))) p6 (.lst (ps.map rf)) L1 = some (.lst (([] : List TR).map trR)) := at_upd (at_upd upd_same hp5) hp6
  have k5 : upd (upd (upd H1 L1 (.lst [])) p5 (.lst (pb.map rf))) p6 (.lst (ps.map rf)) p5 = some (.lst (pb.map rf)) := at_upd upd_same hp6
  have k6 : upd (upd (upd H1 L1 (.lst [])) p5 (.lst (pb.map rf))) p6 (.lst (ps.map rf)) p6 = some (.lst (ps.map rf)) := upd_same
  have f1 : H1 L1 = none := hL1
  have f5 : H1 p5 = none := sA.free hp5
  have f6 : H1 p6 = none := sB.free hp6
  generalize upd (upd (upd H1 L1 (.lst [])) p5 (.lst (pb.map rf))) p6 (.lst (ps.map rf)) = H2 at sC k1 k5 k6
  refine ⟨fun σ' H' => ∃ W : Int, σ' = [some (.ref b), some (.ref s0), some (.int near), some v, some (.ref L1), some (.ref p5), some (.ref p6), some (.int W), none] ∧ Same H2 H' ∧ VolIs pb ps v W, ?_, ?_⟩
  · rcases due with ⟨rfl, _⟩ | ⟨p, rfl, _, h0, _⟩
    · refine ⟨_, rfl, rfl, _, rfl, iteT ?_⟩
      exact ⟨0, rfl, Same.refl _, .inl ⟨rfl, rfl⟩⟩
    · refine ⟨_, rfl, rfl, _, rfl, iteF ?_⟩
      refine ⟨_, rfl, _, rfl, _, rfl, b, pb, s0, ps, p, rfl, .inl (.inl (sC _ _ hb)), .inl (.inl (sC _ _ hs)), hO1.same sC, hO2.same sC, l1, l2, fun H3 s3 => ?_⟩
      exact ⟨volO pb ps p, rfl, s3, .inr ⟨p, rfl, rfl, h0⟩⟩
  rintro _ H3 ⟨W, rfl, s3, vol⟩
  have s13 := sC.trans s3
  have W0 : 0 ≤ W := by rcases vol with ⟨_, z⟩ | ⟨_, _, _, z⟩ <;> omega
  have pB : ∀ x ∈ pb.map (·.2), 1 ≤ x.l := fun x hx => by obtain ⟨y, hy, rfl⟩ := List.mem_map.mp hx; exact g1 y hy
  have pS : ∀ x ∈ ps.map (·.2), 1 ≤ x.l := fun x hx => by obtain ⟨y, hy, rfl⟩ := List.mem_map.mp hx; exact g2 y hy
  have WB : W ≤ sml (pb.map (·.2)) ∧ W ≤ sml (ps.map (·.2)) := by
    have h1 := sml_nn pB
    have h2 := sml_nn pS
    rcases vol with ⟨_, z⟩ | ⟨p, _, z, _⟩
    · omega
    · have e1 := (wsm_nn (p := p) pB).2
      have e2 := (wsm_nn (p := p) pS).2
      have e3 := psum_wsm p pb
      have e4 := psum_wsm p ps
      unfold volO at z
      split at z <;> omega
  refine ⟨fun m σ' H' => ∃ (left : Int) (q5 q6 : Addr) (v8 : Option V) (ts : List TR) (qb qs : List AO), m = left.toNat ∧ σ' = [some (.ref b), some (.ref s0), some (.int near), some v, some (.ref L1), some (.ref q5), some (.ref q6), some (.int left), v8] ∧ (0 ≤ left ∧ left ≤ W) ∧ Same H1 H' ∧ (q5 ≠ L1 ∧ q6 ≠ L1 ∧ q5 ≠ q6) ∧ (H1 q5 = none ∧ H1 q6 = none) ∧ H' L1 = some (.lst (ts.map trR)) ∧ H' q5 = some (.lst (qb.map rf)) ∧ H' q6 = some (.lst (qs.map rf)) ∧ Trs H' ts ∧ Ords H' qb ∧ Ords H' qs ∧ qb.map (·.2) = aft (pb.map (·.2)) (W - left) ∧ qs.map (·.2) = aft (ps.map (·.2)) (W - left) ∧ Trd (pb.map (·.2)) (ps.map (·.2)) W (ts.map (·.2)) (W - left) ∧ (left = W → qb = pb ∧ qs = ps ∧ ts = []),
    ⟨W.toNat, W, p5, p6, none, [], pb, ps, rfl, rfl, ⟨W0, Int.le_refl _⟩, s13, ⟨n5, n6, n56⟩, ⟨f5, f6⟩, s3 _ _ k1, s3 _ _ k5, s3 _ _ k6, (fun t ht => nomatch ht), hO1.same s13, hO2.same s13, by rw [Int.sub_self, aft_zero (Int.le_refl _)], by rw [Int.sub_self, aft_zero (Int.le_refl _)], by rw [Int.sub_self]; exact .nil, fun _ => ⟨rfl, rfl, rfl⟩⟩, ?_⟩
  rintro m _ H4 ⟨left, q5, q6, v8, ts, qb, qs, rfl, rfl, ⟨lf0, lfW⟩, s4, ⟨m5, m6, m56⟩, ⟨e5, e6⟩, kL, kB, kS, trs, oB, oS, aB, aS, trd, same0⟩
  have tl := (trd.len pB pS W0).1
  rw [List.length_map, List.length_map, List.length_map] at tl
  refine ⟨_, rfl, _, _, rfl, rfl, _, rfl, ?_⟩
  refine ite2 (fun c => ?_) (fun c => ?_)
  · have lf1 : 0 < left := of_decide_eq_true c
    have hsB := aft_sum pB (T := W - left) (by omega) (by omega)
    have hsS := aft_sum pS (T := W - left) (by omega) (by omega)
    obtain ⟨x, rb, rfl⟩ : ∃ x rb, qb = x :: rb := by
      cases qb with
      | nil =>
        rw [← aB] at hsB
        have : sml (([] : List AO).map (·.2)) = 0 := rfl
        omega
      | cons x rb => exact ⟨x, rb, rfl⟩
    obtain ⟨y, rs, rfl⟩ : ∃ y rs, qs = y :: rs := by
      cases qs with
      | nil =>
        rw [← aS] at hsS
        have : sml (([] : List AO).map (·.2)) = 0 := rfl
        omega
      | cons y rs => exact ⟨y, rs, rfl⟩
    have hx := oB x List.mem_cons_self
    have hy := oS y List.mem_cons_self
    have aB' : aft (pb.map (·.2)) (W - left) = x.2 :: rb.map (·.2) := by rw [← aB]; rfl
    have aS' : aft (ps.map (·.2)) (W - left) = y.2 :: rs.map (·.2) := by rw [← aS]; rfl
    have x1 := aft_pos pB (T := W - left) (by omega) x.2 (by rw [aB']; exact List.mem_cons_self)
    have y1 := aft_pos pS (T := W - left) (by omega) y.2 (by rw [aS']; exact List.mem_cons_self)
    have lb : rb.length + 1 ≤ 100 := by
      have := aft_len (pb.map (·.2)) (W - left)
      rw [aB', List.length_cons, List.length_map, List.length_map] at this
      omega
    have lr : rs.length + 1 ≤ 100 := by
      have := aft_len (ps.map (·.2)) (W - left)
      rw [aS', List.length_cons, List.length_map, List.length_map] at this
      omega
    refine ⟨fun σ' H' => ∃ (q5 q6 : Addr) (ts : List TR) (qb qs : List AO) (am : Int), σ' = [some (.ref b), some (.ref s0), some (.int near), some v, some (.ref L1), some (.ref q5), some (.ref q6), some (.int (left - am)), some (.int am)] ∧ (1 ≤ am ∧ am ≤ left) ∧ Same H1 H' ∧ (q5 ≠ L1 ∧ q6 ≠ L1 ∧ q5 ≠ q6) ∧ (H1 q5 = none ∧ H1 q6 = none) ∧ H' L1 = some (.lst (ts.map trR)) ∧ H' q5 = some (.lst (qb.map rf)) ∧ H' q6 = some (.lst (qs.map rf)) ∧ Trs H' ts ∧ Ords H' qb ∧ Ords H' qs ∧ qb.map (·.2) = aft (pb.map (·.2)) (W - left + am) ∧ qs.map (·.2) = aft (ps.map (·.2)) (W - left + am) ∧ Trd (pb.map (·.2)) (ps.map (·.2)) W (ts.map (·.2)) (W - left + am), ?_, ?_⟩
    · rintro _ H5 ⟨q5, q6, ts, qb, qs, am, rfl, ⟨a1, a2⟩, h1, h2, h3, h4, h5, h6, h7, h8, h9, h10, h11, h12⟩
      have e : W - left + am = W - (left - am) := by omega
      rw [e] at h10 h11 h12
      exact ⟨(left - am).toNat, by omega, left - am, q5, q6, _, ts, qb, qs, rfl, rfl, ⟨by omega, by omega⟩, h1, h2, h3, h4, h5, h6, h7, h8, h9, h10, h11, h12, fun z => by omega⟩
    have m3 := min3_le x.2.l y.2.l left
    refine ⟨_, rfl, q5, _, _, _, rfl, rfl, .inl (.inl kB), at_zero x rb, x.1, _, _, _, rfl, rfl, .inl (.inl hx), rfl, _, rfl, q6, _, _, _, rfl, rfl, .inl (.inl kS), at_zero y rs, y.1, _, _, _, rfl, rfl, .inl (.inl hy), rfl, _, rfl, _, _, _, rfl, ?_⟩
    have a1 : 1 ≤ min3 x.2.l y.2.l left := by omega
    have trd' : Trd (pb.map (·.2)) (ps.map (·.2)) W (ts.map (·.2) ++ [(x.2.n, y.2.n, min3 x.2.l y.2.l left)]) (W - left + min3 x.2.l y.2.l left) := by
      have := Trd.snoc trd (by omega) aB' aS'
      rwa [show W - (W - left) = left by omega] at this
    have stB := aft_step pB (by omega) aB' a1 m3.1
    have stS := aft_step pS (by omega) aS' a1 m3.2.1
    generalize min3 x.2.l y.2.l left = am at a1 trd' stB stS m3
    refine ⟨_, rfl, .inl ⟨rfl, _, .inl (.inl kL)⟩, _, rfl, q5, _, _, _, rfl, rfl, .inl (.inl kB), at_zero x rb, x.1, _, _, _, rfl, rfl, .inl (.inl hx), rfl, _, rfl, q6, _, _, _, rfl, rfl, .inl (.inl kS), at_zero y rs, y.1, _, _, _, rfl, rfl, .inl (.inl hy), rfl, _, rfl, by walk_at "sz", fun tt htt => ?_⟩
    have s5 := same_upd (u := .tup [V.str x.2.n, V.str y.2.n, V.int am]) htt
    have ktt : upd H4 tt (.tup [V.str x.2.n, V.str y.2.n, V.int am]) tt = some (.tup [V.str x.2.n, V.str y.2.n, V.int am]) := upd_same
    generalize upd H4 tt (.tup [V.str x.2.n, V.str y.2.n, V.int am]) = H5 at s5 ktt
    refine ⟨L1, _, _, rfl, rfl, s5 _ _ kL, by rw [List.length_map]; exact szLt (by omega), ?_⟩
    have et : ts.map trR ++ [V.ref tt] = (ts ++ [((tt, x.2.n, y.2.n, am) : TR)]).map trR := by rw [List.map_append]; rfl
    rw [et]
    have kL5 := s5 _ _ kL
    have s6 : Same H1 (upd H5 L1 (.lst ((ts ++ [((tt, x.2.n, y.2.n, am) : TR)]).map trR))) := same_updN (s4.trans s5) f1
    have kB6 : upd H5 L1 (.lst ((ts ++ [((tt, x.2.n, y.2.n, am) : TR)]).map trR)) q5 = some (.lst ((x :: rb).map rf)) := upd_oth (s5 _ _ kB) m5
    have kS6 : upd H5 L1 (.lst ((ts ++ [((tt, x.2.n, y.2.n, am) : TR)]).map trR)) q6 = some (.lst ((y :: rs).map rf)) := upd_oth (s5 _ _ kS) m6
    have kL6 : upd H5 L1 (.lst ((ts ++ [((tt, x.2.n, y.2.n, am) : TR)]).map trR)) L1 = some (.lst ((ts ++ [((tt, x.2.n, y.2.n, am) : TR)]).map trR)) := upd_same
    have oB6 := (oB.same s5).upd (u := .lst ((ts ++ [((tt, x.2.n, y.2.n, am) : TR)]).map trR)) kL5
    have oS6 := (oS.same s5).upd (u := .lst ((ts ++ [((tt, x.2.n, y.2.n, am) : TR)]).map trR)) kL5
    have tr6 : Trs (upd H5 L1 (.lst ((ts ++ [((tt, x.2.n, y.2.n, am) : TR)]).map trR))) (ts ++ [((tt, x.2.n, y.2.n, am) : TR)]) := fun t ht => by
      rcases List.mem_append.mp ht with ht | ht
      · exact (trs.same s5).upd kL5 t ht
      · rw [List.mem_singleton.mp ht]
        exact upd_tup ktt kL5
    generalize upd H5 L1 (.lst ((ts ++ [((tt, x.2.n, y.2.n, am) : TR)]).map trR)) = H6 at s6 kB6 kS6 kL6 oB6 oS6 tr6
    refine ⟨_, rfl, _, rfl, q5, x, rb, am, rfl, kB6, oB6 x List.mem_cons_self, by omega, fun H7 r5 rb' s7 fr5 kr5 c1 c2 => ?_⟩
    refine ⟨_, rfl, _, rfl, q6, y, rs, am, rfl, s7 _ _ kS6, s7 _ _ (oS6 y List.mem_cons_self), by omega, fun H8 r6 rs' s8 fr6 kr6 d1 d2 => ?_⟩
    refine ⟨_, rfl, _, rfl, _, _, rfl, rfl, ?_⟩
    have s68 := s7.trans s8
    refine ⟨r5, r6, _, rb', rs', am, rfl, ⟨a1, m3.2.2.1⟩, s6.trans s68, ⟨(ne_of_none kL6 fr5).symm, (ne_of_none (s7 _ _ kL6) fr6).symm, ne_of_none kr5 fr6⟩, ⟨s6.free fr5, (s6.trans s7).free fr6⟩, s68 _ _ kL6, s8 _ _ kr5, kr6, tr6.same s68, ?_, ?_, ?_, ?_, ?_⟩
    · by_cases e : x.2.l = am
      · rw [c1 e]; exact fun z hz => s68 _ _ (oB6 z (List.mem_cons_of_mem _ hz))
      · obtain ⟨t, rfl, ht⟩ := c2 e
        intro z hz
        rcases List.mem_cons.mp hz with rfl | hz
        · exact s8 _ _ ht
        · exact s68 _ _ (oB6 z (List.mem_cons_of_mem _ hz))
    · by_cases e : y.2.l = am
      · rw [d1 e]; exact fun z hz => s68 _ _ (oS6 z (List.mem_cons_of_mem _ hz))
      · obtain ⟨t, rfl, ht⟩ := d2 e
        intro z hz
        rcases List.mem_cons.mp hz with rfl | hz
        · exact ht
        · exact s68 _ _ (oS6 z (List.mem_cons_of_mem _ hz))
    · rw [stB]
      by_cases e : x.2.l = am
      · rw [c1 e, if_pos e]
      · obtain ⟨t, rfl, _⟩ := c2 e
        rw [if_neg e]
        rfl
    · rw [stS]
      by_cases e : y.2.l = am
      · rw [d1 e, if_pos e]
      · obtain ⟨t, rfl, _⟩ := d2 e
        rw [if_neg e]
        rfl
    · rw [List.map_append]
      exact trd'
  · have lfz : left = 0 := by
      have : ¬ 0 < left := fun z => c (decide_eq_true z)
      omega
    subst lfz
    rw [Int.sub_zero] at aB aS trd
    refine ⟨_, rfl, _, rfl, _, rfl, _, rfl, by walk_at "sz", fun t ht => ?_⟩
    have s5 := same_upd (u := .tup [v, V.ref L1, V.ref q5, V.ref q6]) ht
    exact q _ t v L1 q5 q6 ts qb qs W (sT.trans (SameT.of (s4.trans s5))) (tk.same (s4.trans s5)) upd_same (free1 f1) (free1 e5) (free1 e6) m56 (s5 _ _ kL) (s5 _ _ kB) (s5 _ _ kS) (trs.same s5) (oB.same s5) (oS.same s5) due vol aB aS trd (fun z => same0 z.symm) (by omega)
theorem sc__law_cell_at : FnScope ["script", "k"] ["script", "k"] (defScope (top 24)) := ⟨rfl, rfl, rfl, by decide +kernel, rfl, by decide +kernel, by decide +kernel⟩
def sp__law_cell_at (K : PySem.W.Frag) : Sp := fun vs H Q _ => ∃ (a : Addr) (ns : List Int) (k : Int), vs = [.ref a, .int k] ∧ SqL K H a (ns.map V.int) ∧ 0 ≤ k ∧ Q (.int (cell ns k)) H
theorem ok__law_cell_at (d__law_cell_at : Dv K mg "_law_cell_at" (top 24) ["script", "k"]) (B : Bl mg) (C : Co mg) (R : Er K mg)  : FnOk P w K mg base CX0 1 d__law_cell_at.f d__law_cell_at.fd ["script", "k"] (sp__law_cell_at K) := by
  refine d__law_cell_at.F.ok sc__law_cell_at (fun vs H Q E h => ?_) (fun cdv A outer s H vs Q E hr h => ?_)
  · obtain ⟨_, _, _, rfl, _⟩ := h; rfl
  obtain ⟨a, ns, k, rfl, hS, h0, q⟩ := h
  refine ⟨_, (pss_cons (ps_if (pt_cmpR op_lt (pv 1) (pe_callB call_len_seq rfl B.b_len PySem.boot_len (pa_cons (pv 0) pa_nil)) (nomark _)) (pss_one (ps_ret (pe_ix ix_list (pv 0) (pv 1) (fun _ _ => rfl)))) pss_nil) (pss_one (ps_ret pe_int))), ?_⟩
  have hl : (ns.map V.int).length = ns.length := List.length_map _
  refine ⟨_, rfl, _, rfl, a, _, rfl, .inl hS, _, _, rfl, rfl, _, rfl, ?_⟩
  unfold cell at q
  refine ite2 (fun c => ?_) (fun c => ?_)
  · have c' : k < (ns.length : Int) := by simpa using c
    rw [if_pos c'] at q
    exact ⟨_, rfl, _, rfl, a, _, _, _, rfl, rfl, hS, at_cell h0 c', q⟩
  · have c' : ¬ k < (ns.length : Int) := by simpa using c
    rw [if_neg c'] at q
    exact q
theorem sc__law_whole : FnScope ["found"] ["found"] (defScope (top 25)) := ⟨rfl, rfl, rfl, by decide +kernel, rfl, by decide +kernel, by decide +kernel⟩
def sp__law_whole (K : PySem.W.Frag) : Sp := fun vs H Q _ => ∃ (i : Int), vs = [.int i] ∧ Q (.bl true) H
theorem ok__law_whole (d__law_whole : Dv K mg "_law_whole" (top 25) ["found"]) (B : Bl mg) (C : Co mg) (R : Er K mg)  : FnOk P w K mg base CX0 1 d__law_whole.f d__law_whole.fd ["found"] (sp__law_whole K) := by
  refine d__law_whole.F.ok sc__law_whole (fun vs H Q E h => ?_) (fun cdv A outer s H vs Q E hr h => ?_)
  · obtain ⟨_, rfl, _⟩ := h; rfl
  obtain ⟨i, rfl, q⟩ := h
  refine ⟨_, (pss_one (ps_ret (pe_and (pe_callB call_isinst rfl B.b_isinstance PyProof.Rows.boot_isinstance (pa_cons (pv 0) (pa_cons (pe_bltn (v := .ty "int") rfl B.b_int PyProof.Rows.boot_int rfl) pa_nil))) (pe_one (pe_not (pe_callB call_isinst rfl B.b_isinstance PyProof.Rows.boot_isinstance (pa_cons (pv 0) (pa_cons (pe_bltn (v := .ty "bool") rfl B.b_bool PyProof.Rows.boot_bool rfl) pa_nil)))))))), ?_⟩
  refine ⟨_, rfl, _, _, _, _, true, rfl, .int i, rfl, rfl, true, rfl, iteT ?_⟩
  exact ⟨_, rfl, _, _, _, _, false, rfl, .int i, rfl, rfl, false, rfl, q⟩
theorem sc__law_signs : FnScope ["cell", "many", "row", "rest", "drawn", "k"] ["cell", "many"] (defScope (top 26)) := ⟨rfl, rfl, rfl, by decide +kernel, rfl, by decide +kernel, by decide +kernel⟩
def sp__law_signs (K : PySem.W.Frag) : Sp := fun vs H Q _ => ∃ (c m : Int), vs = [.int c, .int m] ∧ 0 ≤ m ∧ m ≤ 12 ∧ ∀ z : Str, z.length ≤ 12 → Q (.str z) H
theorem ok__law_signs (d__law_signs : Dv K mg "_law_signs" (top 26) ["cell", "many"]) (B : Bl mg) (C : Co mg) (R : Er K mg)  : FnOk P w K mg base CX0 1 d__law_signs.f d__law_signs.fd ["cell", "many"] (sp__law_signs K) := by
  refine d__law_signs.F.ok sc__law_signs (fun vs H Q E h => ?_) (fun cdv A outer s H vs Q E hr h => ?_)
  · obtain ⟨_, _, rfl, _⟩ := h; rfl
  obtain ⟨c, m, rfl, h0, h1, q⟩ := h
  refine ⟨_, (pss_cons (ps_set (i := 2) sc__law_signs.nd rfl (Or.inl rfl) pe_str) (pss_cons (ps_set (i := 3) sc__law_signs.nd rfl (Or.inl rfl) (pe_op op_mod (pv 0) (pe_op op_pow pe_int pe_int))) (pss_cons (ps_set (i := 4) sc__law_signs.nd rfl (Or.inl rfl) pe_str) (pss_cons (ps_for PassesOwn.never rfl (pi_range1 rfl B.b_range (pa_cons (pv 1) pa_nil)) (pg_name (i := 5) sc__law_signs.nd rfl (Or.inl rfl)) (pss_cons (ps_set (i := 4) sc__law_signs.nd rfl (Or.inl rfl) (pe_op op_add_str (pv 4) (pe_ix ix_str (pv 2) (pe_op op_mod (pv 3) pe_int) (fun _ _ => rfl)))) (pss_one (ps_set (i := 3) sc__law_signs.nd rfl (Or.inl rfl) (pe_op op_fdiv (pv 3) pe_int))))) (pss_one (ps_ret (pv 4))))))), ?_⟩
  refine ⟨_, rfl, _, _, rfl, rfl, ⟨by decide, by decide, by decide⟩, _, _, rfl, rfl, (by show (0 : Int) < _; decide), ?_⟩
  refine ⟨_, rfl, _, rfl, by omega, by omega, ?_⟩
  refine for_range (lo := 0) (fun i σ H' => H' = H ∧ ∃ (r : Int) (z : Str) (v5 : Option V), σ = [some (.int c), some (.int m), some (.str ROW), some (.int r), some (.str z), v5] ∧ z.length ≤ i) ⟨rfl, _, _, none, rfl, Nat.le_refl _⟩ (fun i σ H' hi z => ?_) (fun σ H' z => ?_)
  · obtain ⟨rfl, r, z, v5, rfl, hz⟩ := z
    have hi' : i < 12 := by omega
    obtain ⟨ch, hch⟩ := at_row (z := ROW) (i := r % 36) (by omega) (by rw [row_sz]; omega)
    refine ⟨_, rfl, _, rfl, _, rfl, _, _, rfl, rfl, (by walk_at "side"), ROW, _, ch, rfl, rfl, row_ok, hch, _, _, rfl, rfl, ?_, ?_⟩
    · rw [one_sz]; exact szOk (by omega)
    · refine ⟨_, rfl, _, _, rfl, rfl, ⟨by decide, by decide⟩, rfl, _, _, _, rfl, ?_⟩
      rw [Str.length_append, one_sz]
      omega
  · obtain ⟨rfl, r, z, v5, rfl, hz⟩ := z
    exact ⟨_, rfl, q _ (by omega)⟩
theorem sc__law_name : FnScope ["cell", "k", "at", "row", "head"] ["cell", "k", "at"] (defScope (top 27)) := ⟨rfl, rfl, rfl, by decide +kernel, rfl, by decide +kernel, by decide +kernel⟩
def sp__law_name (K : PySem.W.Frag) : Sp := fun vs H Q _ => ∃ (c k a : Int), vs = [.int c, .int k, .int a] ∧ 0 ≤ k ∧ k < 900 ∧ ∀ z : Str, z.length ≤ 100 → Q (.str z) H
theorem ok__law_name (d__law_name : Dv K mg "_law_name" (top 27) ["cell", "k", "at"]) (B : Bl mg) (C : Co mg) (R : Er K mg) (d__law_signs : Dv K mg "_law_signs" (top 26) ["cell", "many"]) (G__law_signs : FnOk P w K mg base CX0 1 d__law_signs.f d__law_signs.fd ["cell", "many"] (sp__law_signs K)) : FnOk P w K mg base CX0 2 d__law_name.f d__law_name.fd ["cell", "k", "at"] (sp__law_name K) := by
  refine d__law_name.F.ok sc__law_name (fun vs H Q E h => ?_) (fun cdv A outer s H vs Q E hr h => ?_)
  · obtain ⟨_, _, _, rfl, _⟩ := h; rfl
  obtain ⟨c, k, a, rfl, h0, h1, q⟩ := h
  refine ⟨_, (pss_cons (ps_set (i := 3) sc__law_name.nd rfl (Or.inl rfl) pe_str) (pss_cons (ps_set (i := 4) sc__law_name.nd rfl (Or.inl rfl) (pe_slice sl_str (pe_op op_add_str (pe_ix ix_str (pv 3) (pe_op op_mod (pv 0) pe_int) (fun _ _ => rfl)) (pe_call G__law_signs (hr.mono (by decide)) rfl d__law_signs.m d__law_signs.F.kp d__law_signs.b .nil pass0 (pa_cons (pv 0) (pa_cons pe_int pa_nil)))) po_none (po_some (pv 2)))) (pss_one (ps_ret (pe_op op_add_str (pe_op op_add_str (pe_op op_add_str (pv 4) (pe_ix ix_str (pv 3) (pe_op op_mod (pv 1) pe_int) (fun _ _ => rfl))) (pe_ix ix_str (pv 3) (pe_op op_fdiv (pv 1) pe_int) (fun _ _ => rfl))) (pe_call G__law_signs (hr.mono (by decide)) rfl d__law_signs.m d__law_signs.F.kp d__law_signs.b .nil pass0 (pa_cons (pe_op op_fdiv (pv 0) pe_int) (pa_cons (pe_op op_mod (pv 0) pe_int) pa_nil)))))))), ?_⟩
  obtain ⟨c1, hc1⟩ := at_row (z := ROW) (i := c % 26) (by omega) (by rw [row_sz]; omega)
  obtain ⟨c2, hc2⟩ := at_row (z := ROW) (i := k % 26) (by omega) (by rw [row_sz]; omega)
  obtain ⟨c3, hc3⟩ := at_row (z := ROW) (i := k / 26) (by omega) (by rw [row_sz]; omega)
  refine ⟨_, rfl, _, rfl, _, _, rfl, rfl, (by walk_at "side"), ROW, _, c1, rfl, rfl, row_ok, hc1, _, rfl, _, _, rfl, by decide, by decide, fun z1 hz1 => ?_⟩
  refine ⟨_, _, rfl, rfl, ?_, ?_⟩
  · rw [one_sz]; exact szOk (by omega)
  have l1 : (Str.mk #[c1] ++ z1).length ≤ 13 := by rw [Str.length_append, one_sz]; omega
  refine ⟨_, rfl, _, rfl, _, rfl, szOk (by omega), ?_⟩
  have l2 := Nat.le_trans (Txt.slice_le (Str.mk #[c1] ++ z1) none (some a)) l1
  generalize hh : Txt.slice (Str.mk #[c1] ++ z1) none (some a) = hd at l2
  refine ⟨_, rfl, _, rfl, _, rfl, _, _, rfl, rfl, (by walk_at "side"), ROW, _, c2, rfl, rfl, row_ok, hc2, hd, _, by rw [← hh], rfl, ?_, ?_⟩
  · rw [one_sz]; exact szOk (by omega)
  have l3 : (hd ++ Str.mk #[c2]).length ≤ 14 := by rw [Str.length_append, one_sz]; omega
  refine ⟨_, rfl, _, rfl, _, _, rfl, rfl, ⟨by decide, by decide⟩, ROW, _, c3, rfl, rfl, row_ok, hc3, _, _, rfl, rfl, ?_, ?_⟩
  · rw [one_sz]; exact szOk (by omega)
  have l4 : ((hd ++ Str.mk #[c2]) ++ Str.mk #[c3]).length ≤ 15 := by rw [Str.length_append, one_sz]; omega
  refine ⟨_, rfl, _, _, rfl, rfl, ⟨by decide, by decide⟩, _, rfl, _, _, rfl, rfl, (by walk_at "side"), _, _, rfl, by omega, by omega, fun z2 hz2 => ?_⟩
  refine ⟨_, _, rfl, rfl, szOk (by omega), q _ ?_⟩
  rw [Str.length_append]
  omega
theorem sc__law_price : FnScope ["cell", "plan"] ["cell", "plan"] (defScope (top 28)) := ⟨rfl, rfl, rfl, by decide +kernel, rfl, by decide +kernel, by decide +kernel⟩
def sp__law_price (K : PySem.W.Frag) : Sp := fun vs H Q _ => ∃ (c p : Int), vs = [.int c, .int p] ∧ ∀ i : Int, Q (.int i) H
theorem ok__law_price (d__law_price : Dv K mg "_law_price" (top 28) ["cell", "plan"]) (B : Bl mg) (C : Co mg) (R : Er K mg)  : FnOk P w K mg base CX0 1 d__law_price.f d__law_price.fd ["cell", "plan"] (sp__law_price K) := by
  refine d__law_price.F.ok sc__law_price (fun vs H Q E h => ?_) (fun cdv A outer s H vs Q E hr h => ?_)
  · obtain ⟨_, _, rfl, _⟩ := h; rfl
  obtain ⟨c, p, rfl, q⟩ := h
  refine ⟨_, (pss_cons (ps_if (pt_cmpR op_eq (pe_op op_mod (pv 1) pe_int) pe_int (nomark _)) (pss_one (ps_ret (pe_op op_add pe_int (pe_op op_mod (pe_op op_mod (pe_op op_mul (pv 0) pe_int) pe_int) (pe_op op_pow pe_int pe_int))))) pss_nil) (pss_cons (ps_if (pt_cmpR op_eq (pe_op op_mod (pv 1) pe_int) pe_int (nomark _)) (pss_one (ps_ret (pe_op op_sub (pe_op op_pow pe_int pe_int) (pe_op op_mod (pv 0) pe_int)))) pss_nil) (pss_one (ps_ret (pe_op op_add pe_int (pe_op op_mod (pv 0) pe_int)))))), ?_⟩
  refine ⟨_, rfl, _, _, rfl, rfl, (by walk_at "side"), rfl, _, rfl, ?_⟩
  refine ite2 (fun _ => ?_) (fun _ => ?_)
  · exact ⟨_, rfl, _, _, rfl, rfl, .inr ⟨by decide, by decide⟩, _, _, rfl, rfl, (by show (0 : Int) < _; decide), _, _, rfl, rfl, ⟨by decide, by decide, by decide⟩, _, _, rfl, rfl, (by show (0 : Int) < _; decide), _, _, rfl, rfl, q _⟩
  refine ⟨_, rfl, _, _, rfl, rfl, (by walk_at "side"), rfl, _, rfl, ?_⟩
  refine ite2 (fun _ => ?_) (fun _ => ?_)
  · exact ⟨_, _, rfl, rfl, ⟨by decide, by decide, by decide⟩, _, rfl, _, _, rfl, rfl, (by show (0 : Int) < _; decide), _, _, rfl, rfl, q _⟩
  exact ⟨_, rfl, _, _, rfl, rfl, (by show (0 : Int) < _; decide), _, _, rfl, rfl, q _⟩
theorem sc__law_asked : FnScope ["cell", "orders", "plan", "one"] ["cell", "orders", "plan"] (defScope (top 29)) := ⟨rfl, rfl, rfl, by decide +kernel, rfl, by decide +kernel, by decide +kernel⟩
def sp__law_asked (K : PySem.W.Frag) : Sp := fun vs H Q _ => ∃ (c : Int) (p : Addr) (ps : List AO) (pl : Int), vs = [.int c, .ref p, .int pl] ∧ SqL K H p (ps.map rf) ∧ Ords H ps ∧ ps.length ≤ 1000 ∧ ∀ (i : Int) (H' : Hp), Same H H' → Q (.int i) H'
theorem ok__law_asked (d__law_asked : Dv K mg "_law_asked" (top 29) ["cell", "orders", "plan"]) (B : Bl mg) (C : Co mg) (R : Er K mg) (d__law_price : Dv K mg "_law_price" (top 28) ["cell", "plan"]) (G__law_price : FnOk P w K mg base CX0 1 d__law_price.f d__law_price.fd ["cell", "plan"] (sp__law_price K)) : FnOk P w K mg base CX0 2 d__law_asked.f d__law_asked.fd ["cell", "orders", "plan"] (sp__law_asked K) := by
  refine d__law_asked.F.ok sc__law_asked (fun vs H Q E h => ?_) (fun cdv A outer s H vs Q E hr h => ?_)
  · obtain ⟨_, _, _, _, rfl, _⟩ := h; rfl
  obtain ⟨c, p, ps, pl, rfl, hS, hO, hl, q⟩ := h
  refine ⟨_, (pss_cons (ps_if (PW.pt (pw_or (pt_cmpR (op_eqD hr.units) (pv 1) (pe_lst pa_nil) (nomark _)) (pw_or1 (pt_cmpR op_eq (pe_op op_mod (pv 0) pe_int) pe_int (nomark _))))) (pss_one (ps_ret (pe_call G__law_price (hr.mono (by decide)) rfl d__law_price.m d__law_price.F.kp d__law_price.b .nil pass0 (pa_cons (pe_op op_fdiv (pv 0) pe_int) (pa_cons (pv 2) pa_nil))))) pss_nil) (pss_cons (ps_set (i := 3) sc__law_asked.nd rfl (Or.inl rfl) (pe_ix ix_tup (pe_ix ix_list (pv 1) (pe_op op_mod (pe_op op_fdiv (pv 0) pe_int) (pe_callB call_len_seq rfl B.b_len PySem.boot_len (pa_cons (pv 1) pa_nil))) (fun _ _ => rfl)) pe_int (fun _ _ => rfl))) (pss_cons (ps_if (pt_cmpR op_eq (pe_op op_mod (pv 0) pe_int) pe_int (nomark _)) (pss_one (ps_ret (pe_op op_fdiv (pe_op op_add (pv 3) (pe_ix ix_tup (pe_ix ix_list (pv 1) (pe_op op_mod (pe_op op_fdiv (pe_op op_fdiv (pv 0) pe_int) (pe_callB call_len_seq rfl B.b_len PySem.boot_len (pa_cons (pv 1) pa_nil))) (pe_callB call_len_seq rfl B.b_len PySem.boot_len (pa_cons (pv 1) pa_nil))) (fun _ _ => rfl)) pe_int (fun _ _ => rfl))) pe_int))) pss_nil) (pss_one (ps_ret (pe_callB (call_min2 rfl) rfl B.b_min PyProof.Rows.boot_min (pa_cons (pe_op op_pow pe_int pe_int) (pa_cons (pe_callB (call_max2 rfl) rfl B.b_max PyProof.Rows.boot_max (pa_cons pe_int (pa_cons (pe_op op_sub (pe_op op_add (pv 3) (pe_op op_mod (pv 0) pe_int)) pe_int) pa_nil))) pa_nil)))))))), ?_⟩
  refine ⟨_, rfl, by walk_at "sz", fun l0 hl0 => ?_⟩
  have s0 := same_upd (u := .lst []) hl0
  have hS0 := s0.seq hS
  have hO0 := hO.same s0
  have pr5 : ∀ x : Int, 0 ≤ x % 5 := fun x => by omega
  by_cases hp : ps = []
  · subst hp
    refine ⟨p, l0, _, _, rfl, rfl, hS0, .inl (.inl upd_same), .inr ⟨rfl, fun _ => true, fun j hj => absurd hj (Nat.not_lt_zero _), _, rfl, iteT (iteT ?_)⟩⟩
    exact ⟨_, rfl, _, _, rfl, rfl, ⟨by decide, by decide⟩, _, rfl, _, _, rfl, fun i => q i _ s0⟩
  have hn : 0 < ps.length := List.length_pos_iff.mpr hp
  refine ⟨p, l0, _, _, rfl, rfl, hS0, .inl (.inl upd_same), .inl ⟨by rw [List.length_map]; exact fun z => by simp at z; exact hp z, _, rfl, iteF ?_⟩⟩
  refine ⟨_, rfl, _, _, rfl, rfl, (by walk_at "side"), rfl, _, rfl, ?_⟩
  refine ite2 (fun _ => ?_) (fun _ => ?_)
  · exact ⟨_, rfl, _, _, rfl, rfl, ⟨by decide, by decide⟩, _, rfl, _, _, rfl, fun i => q i _ s0⟩
  have hlen : (((ps.map rf).length : Nat) : Int) = ps.length := by rw [List.length_map]
  obtain ⟨x, hx, ax⟩ := at_ords (ps := ps) (i := c / 5 % ((ps.map rf).length : Int)) (by rw [hlen]; exact Int.emod_nonneg _ (by omega)) (by rw [hlen]; exact Int.emod_lt_of_pos _ (by omega))
  refine ⟨_, rfl, _, rfl, _, _, rfl, rfl, ⟨by decide, by decide⟩, _, rfl, p, _, rfl, .inl hS0, _, _, rfl, rfl, (by show (0 : Int) < _; rw [hlen]; omega), p, _, _, _, rfl, rfl, hS0, ax, x.1, _, _, _, rfl, rfl, .inl (.inl (hO0 x hx)), rfl, ?_⟩
  refine ⟨_, rfl, _, _, rfl, rfl, (by walk_at "side"), rfl, _, rfl, ?_⟩
  refine ite2 (fun _ => ?_) (fun _ => ?_)
  · obtain ⟨y, hy, ay⟩ := at_ords (ps := ps) (i := c / 5 / ((ps.map rf).length : Int) % ((ps.map rf).length : Int)) (by rw [hlen]; exact Int.emod_nonneg _ (by omega)) (by rw [hlen]; exact Int.emod_lt_of_pos _ (by omega))
    exact ⟨_, rfl, _, rfl, _, rfl, _, _, rfl, rfl, ⟨by decide, by decide⟩, _, rfl, p, _, rfl, .inl hS0, _, _, rfl, rfl, ⟨by rw [hlen]; omega, by rw [hlen]; omega⟩, _, rfl, p, _, rfl, .inl hS0, _, _, rfl, rfl, (by show (0 : Int) < _; rw [hlen]; omega), p, _, _, _, rfl, rfl, hS0, ay, y.1, _, _, _, rfl, rfl, .inl (.inl (hO0 y hy)), rfl, _, _, rfl, rfl, _, _, rfl, rfl, ⟨by decide, by decide⟩, q _ _ s0⟩
  exact ⟨_, _, rfl, rfl, ⟨by decide, by decide, by decide⟩, _, rfl, _, rfl, _, _, rfl, rfl, (by walk_at "side"), _, _, rfl, rfl, _, _, rfl, rfl, _, _, rfl, _, _, rfl, q _ _ s0⟩
theorem sc__law_order : FnScope ["cell", "name", "side", "plan", "many", "more", "least", "peak", "top", "gone", "who"] ["cell", "name", "side", "plan"] (defScope (top 30)) := ⟨rfl, rfl, rfl, by decide +kernel, rfl, by decide +kernel, by decide +kernel⟩
def sp__law_order (K : PySem.W.Frag) : Sp := fun vs H Q _ => ∃ (c : Int) (nm sd : Str) (pl : Int), vs = [.int c, .str nm, .str sd, .int pl] ∧ ∀ (H' : Hp) (t : Addr) (w : Str) (pr l sh pk : Int), Same H H' → H' t = some (.tup (odV ⟨nm, w, sd, pr, l, sh, pk⟩)) → 1 ≤ l → 0 ≤ pk → Q (.ref t) H'
theorem ok__law_order (d__law_order : Dv K mg "_law_order" (top 30) ["cell", "name", "side", "plan"]) (B : Bl mg) (C : Co mg) (R : Er K mg) (d__law_name : Dv K mg "_law_name" (top 27) ["cell", "k", "at"]) (G__law_name : FnOk P w K mg base CX0 2 d__law_name.f d__law_name.fd ["cell", "k", "at"] (sp__law_name K)) (d__law_price : Dv K mg "_law_price" (top 28) ["cell", "plan"]) (G__law_price : FnOk P w K mg base CX0 1 d__law_price.f d__law_price.fd ["cell", "plan"] (sp__law_price K)) : FnOk P w K mg base CX0 3 d__law_order.f d__law_order.fd ["cell", "name", "side", "plan"] (sp__law_order K) := by
  refine d__law_order.F.ok sc__law_order (fun vs H Q E h => ?_) (fun cdv A outer s H vs Q E hr h => ?_)
  · obtain ⟨_, _, _, _, rfl, _⟩ := h; rfl
  obtain ⟨c, nm, sd, pl, rfl, q⟩ := h
  refine ⟨_, (pss_cons (ps_set (i := 4) sc__law_order.nd rfl (Or.inl rfl) (pe_op op_add pe_int (pe_op op_mod (pe_op op_fdiv (pv 0) pe_int) pe_int))) (pss_cut (ps_if (pt_cmpR op_eq (pe_op op_mod (pv 3) pe_int) pe_int (nomark _)) (pss_one (ps_set (i := 4) sc__law_order.nd rfl (Or.inl rfl) (pe_op op_add pe_int (pe_op op_mod (pe_op op_mod (pe_op op_mul (pv 0) pe_int) pe_int) (pe_op op_pow pe_int pe_int))))) pss_nil) (pss_cut (ps_if (pt_cmpR op_eq (pe_op op_mod (pv 3) pe_int) pe_int (nomark _)) (pss_one (ps_set (i := 4) sc__law_order.nd rfl (Or.inl rfl) (pe_op op_sub (pe_op op_pow pe_int pe_int) (pe_op op_mod (pe_op op_fdiv (pv 0) pe_int) pe_int)))) pss_nil) (pss_cons (ps_set (i := 5) sc__law_order.nd rfl (Or.inl rfl) (pe_op op_mod (pe_op op_add (pe_op op_mul (pv 0) pe_int) pe_int) pe_int)) (pss_cons (ps_set (i := 6) sc__law_order.nd rfl (Or.inl rfl) (pe_op op_fdiv (pe_op op_add (pv 4) pe_int) pe_int)) (pss_cons (ps_set (i := 7) sc__law_order.nd rfl (Or.inl rfl) pe_int) (pss_cons (ps_set (i := 8) sc__law_order.nd rfl (Or.inl rfl) (pv 4)) (pss_cut (ps_if (pt_cmpR op_eq (pe_op op_mod (pe_op op_fdiv (pv 5) pe_int) pe_int) pe_int (nomark _)) (pss_cons (ps_set (i := 7) sc__law_order.nd rfl (Or.inl rfl) (pe_op op_add (pv 6) (pe_op op_mod (pe_op op_fdiv (pv 5) pe_int) (pe_op op_add (pe_op op_sub (pv 4) (pv 6)) pe_int)))) (pss_one (ps_set (i := 8) sc__law_order.nd rfl (Or.inl rfl) (pv 7)))) pss_nil) (pss_cons (ps_set (i := 9) sc__law_order.nd rfl (Or.inl rfl) pe_int) (pss_cut (ps_if (pt_cmpR op_eq (pe_op op_mod (pe_op op_fdiv (pv 5) pe_int) pe_int) pe_int (nomark _)) (pss_one (ps_set (i := 9) sc__law_order.nd rfl (Or.inl rfl) (pe_op op_mod (pe_op op_fdiv (pv 5) pe_int) (pv 8)))) pss_nil) (pss_cons (ps_set (i := 10) sc__law_order.nd rfl (Or.inl rfl) (pe_call G__law_name (hr.mono (by decide)) rfl d__law_name.m d__law_name.F.kp d__law_name.b .nil pass0 (pa_cons (pe_op op_mod (pe_op op_fdiv (pv 0) pe_int) pe_int) (pa_cons pe_int (pa_cons pe_int pa_nil))))) (pss_one (ps_ret (pe_tup (pa_cons (pv 1) (pa_cons (pv 10) (pa_cons (pv 2) (pa_cons (pe_call G__law_price (hr.mono (by decide)) rfl d__law_price.m d__law_price.F.kp d__law_price.b .nil pass0 (pa_cons (pe_op op_fdiv (pv 0) pe_int) (pa_cons (pv 3) pa_nil))) (pa_cons (pe_op op_sub (pv 4) (pv 9)) (pa_cons (pe_op op_sub (pv 8) (pv 9)) (pa_cons (pv 7) pa_nil))))))))))))))))))))), ?_⟩
  have e9 : (10 : Int) ^ (9 : Int).toNat = 1000000000 := by decide
  refine ⟨_, rfl, _, _, rfl, rfl, ⟨by decide, by decide⟩, _, _, rfl, rfl, (by show (0 : Int) < _; decide), _, _, rfl, rfl, ?_⟩
  refine ⟨fun σ' H' => ∃ many : Int, σ' = [some (.int c), some (.str nm), some (.str sd), some (.int pl), some (.int many), none, none, none, none, none, none] ∧ H = H' ∧ 1 ≤ many, ?_, ?_⟩
  · refine ⟨_, rfl, _, _, rfl, rfl, (by walk_at "side"), rfl, _, rfl, ?_⟩
    refine ite2 (fun _ => ?_) (fun _ => ?_)
    · refine ⟨_, rfl, _, _, rfl, rfl, .inr ⟨by decide, by decide⟩, _, _, rfl, rfl, (by show (0 : Int) < _; decide), _, _, rfl, rfl, ⟨by decide, by decide, by decide⟩, _, _, rfl, rfl, (by show (0 : Int) < _; decide), _, _, rfl, rfl, _, rfl, rfl, ?_⟩
      have := Int.emod_nonneg (c * 16807 % 1000000007) (show (10 ^ (9 : Int).toNat : Int) ≠ 0 by decide)
      omega
    · refine ⟨_, rfl, rfl, ?_⟩
      omega
  rintro _ _ ⟨m1, rfl, rfl, hm1⟩
  refine ⟨fun σ' H' => ∃ many : Int, σ' = [some (.int c), some (.str nm), some (.str sd), some (.int pl), some (.int many), none, none, none, none, none, none] ∧ H = H' ∧ 1 ≤ many, ?_, ?_⟩
  · refine ⟨_, rfl, _, _, rfl, rfl, (by walk_at "side"), rfl, _, rfl, ?_⟩
    refine ite2 (fun _ => ?_) (fun _ => ?_)
    · refine ⟨_, _, rfl, rfl, ⟨by decide, by decide, by decide⟩, _, rfl, _, _, rfl, rfl, ⟨by decide, by decide⟩, _, _, rfl, rfl, (by show (0 : Int) < _; decide), _, _, rfl, rfl, _, rfl, rfl, ?_⟩
      rw [e9]
      omega
    · exact ⟨m1, rfl, rfl, hm1⟩
  rintro _ _ ⟨m, rfl, rfl, hm⟩
  refine ⟨_, rfl, _, _, rfl, rfl, .inr ⟨by decide, by decide⟩, _, _, rfl, rfl, _, _, rfl, rfl, (by show (0 : Int) < _; decide), ?_⟩
  refine ⟨_, rfl, _, _, rfl, rfl, _, _, rfl, rfl, ⟨by decide, by decide⟩, ?_⟩
  refine ⟨_, rfl, ?_⟩
  refine ⟨fun σ' H' => ∃ pk tp : Int, σ' = [some (.int c), some (.str nm), some (.str sd), some (.int pl), some (.int m), some (.int ((c * 48271 + 7) % 2147483647)), some (.int ((m + 15) / 16)), some (.int pk), some (.int tp), none, none] ∧ H = H' ∧ 1 ≤ tp ∧ tp ≤ m ∧ 0 ≤ pk, ?_, ?_⟩
  · refine ⟨_, rfl, _, _, rfl, rfl, ⟨by decide, by decide⟩, _, _, rfl, rfl, (by walk_at "side"), rfl, _, rfl, ?_⟩
    refine ite2 (fun _ => ?_) (fun _ => ?_)
    · have hd : 0 < m - (m + 15) / 16 + 1 := by omega
      refine ⟨_, rfl, _, rfl, _, _, rfl, rfl, ⟨by decide, by decide⟩, _, rfl, _, rfl, _, _, rfl, rfl, _, _, rfl, rfl, _, _, rfl, rfl, hd, _, _, rfl, rfl, ?_⟩
      have := Int.emod_nonneg ((c * 48271 + 7) % 2147483647 / 33) (show m - (m + 15) / 16 + 1 ≠ 0 by omega)
      have hd2 := Int.emod_lt_of_pos ((c * 48271 + 7) % 2147483647 / 33) hd
      refine ⟨_, rfl, _, _, rfl, rfl, ?_⟩
      refine ⟨?_, ?_, ?_⟩ <;> omega
    · exact ⟨_, _, rfl, rfl, hm, Int.le_refl _, Int.le_refl _⟩
  rintro _ _ ⟨pk, tp, rfl, rfl, htp, htm, hpk⟩
  refine ⟨fun σ' H' => ∃ gn : Int, σ' = [some (.int c), some (.str nm), some (.str sd), some (.int pl), some (.int m), some (.int ((c * 48271 + 7) % 2147483647)), some (.int ((m + 15) / 16)), some (.int pk), some (.int tp), some (.int gn), none] ∧ H = H' ∧ 0 ≤ gn ∧ gn < tp, ?_, ?_⟩
  · refine ⟨_, rfl, _, _, rfl, rfl, ⟨by decide, by decide⟩, _, _, rfl, rfl, (by walk_at "side"), rfl, _, rfl, ?_⟩
    refine ite2 (fun _ => ?_) (fun _ => ?_)
    · exact ⟨_, rfl, _, _, rfl, rfl, ⟨by decide, by decide⟩, _, rfl, _, _, rfl, rfl, (by show (0 : Int) < _; omega), _, rfl, rfl, Int.emod_nonneg _ (by omega), Int.emod_lt_of_pos _ (by omega)⟩
    · exact ⟨_, rfl, rfl, Int.le_refl _, by omega⟩
  rintro _ _ ⟨gn, rfl, rfl, hg0, hg1⟩
  refine ⟨_, rfl, _, _, rfl, rfl, ⟨by decide, by decide⟩, _, _, rfl, rfl, (by walk_at "side"), _, _, _, rfl, by decide, by decide, fun wz hwz => ?_⟩
  refine ⟨_, rfl, _, rfl, _, rfl, _, rfl, _, _, rfl, rfl, ⟨by decide, by decide⟩, _, rfl, _, _, rfl, fun pr => ?_⟩
  refine ⟨_, rfl, _, rfl, _, _, rfl, rfl, _, rfl, _, rfl, _, _, rfl, rfl, _, rfl, by walk_at "sz", fun t ht => ?_⟩
  exact q _ t wz pr _ _ _ (same_upd ht) upd_same (by omega) hpk
theorem sc__law_ahead : FnScope ["side", "price", "other"] ["side", "price", "other"] (defScope (top 31)) := ⟨rfl, rfl, rfl, by decide +kernel, rfl, by decide +kernel, by decide +kernel⟩
def sp__law_ahead (K : PySem.W.Frag) : Sp := fun vs H Q _ => ∃ (s : Str) (p o : Int), vs = [.str s, .int p, .int o] ∧ Q (.bl (aheadB s p o)) H
theorem ok__law_ahead (d__law_ahead : Dv K mg "_law_ahead" (top 31) ["side", "price", "other"]) (B : Bl mg) (C : Co mg) (R : Er K mg)  : FnOk P w K mg base CX0 1 d__law_ahead.f d__law_ahead.fd ["side", "price", "other"] (sp__law_ahead K) := by
  refine d__law_ahead.F.ok sc__law_ahead (fun vs H Q E h => ?_) (fun cdv A outer s H vs Q E hr h => ?_)
  · obtain ⟨_, _, _, rfl, _⟩ := h; rfl
  obtain ⟨sd, p, o, rfl, q⟩ := h
  refine ⟨_, (pss_cons (ps_if (pt_cmpR op_eq (pv 0) pe_str (nomark _)) (pss_one (ps_ret (pe_cmpR op_gt (pv 1) (pv 2) (nomark _)))) pss_nil) (pss_one (ps_ret (pe_cmpR op_lt (pv 1) (pv 2) (nomark _))))), ?_⟩
  unfold aheadB at q
  refine ⟨_, rfl, rfl, _, rfl, ?_⟩
  refine ite2 (fun c => ?_) (fun c => ?_)
  · rw [if_pos (by simpa using c)] at q
    exact ⟨_, rfl, _, rfl, _, _, rfl, rfl, q⟩
  · rw [if_neg (by simpa using c)] at q
    exact ⟨_, rfl, _, rfl, _, _, rfl, rfl, q⟩
theorem sc__law_lines : FnScope ["script", "plan", "tag", "lines", "cells", "k", "name", "way", "order", "line", "at"] ["script"] (defScope (top 32)) := ⟨rfl, rfl, rfl, by decide +kernel, rfl, by decide +kernel, by decide +kernel⟩
def sp__law_lines (K : PySem.W.Frag) : Sp := fun vs H Q _ => ∃ (a : Addr) (ns : List Int), vs = [.ref a] ∧ SqL K H a (ns.map V.int) ∧ ns.length ≤ 63 ∧
  ∀ (H' : Hp) (L b s : Addr) (pb ps : List AO), Same H H' → H' L = some (.lst [.ref b, .ref s]) → H' b = some (.lst (pb.map rf)) → H' s = some (.lst (ps.map rf)) → b ≠ s → Ords H' pb → Ords H' ps → (∀ p ∈ pb, GoodO "buy" p.2) → (∀ p ∈ ps, GoodO "sell" p.2) → Up "buy" (pb.map (·.2)) → Up "sell" (ps.map (·.2)) → pb.length + ps.length ≤ 48 → Q (.ref L) H'
theorem ok__law_lines (d__law_lines : Dv K mg "_law_lines" (top 32) ["script"]) (B : Bl mg) (C : Co mg) (R : Er K mg) (d__law_cell_at : Dv K mg "_law_cell_at" (top 24) ["script", "k"]) (G__law_cell_at : FnOk P w K mg base CX0 1 d__law_cell_at.f d__law_cell_at.fd ["script", "k"] (sp__law_cell_at K)) (d__law_name : Dv K mg "_law_name" (top 27) ["cell", "k", "at"]) (G__law_name : FnOk P w K mg base CX0 2 d__law_name.f d__law_name.fd ["cell", "k", "at"] (sp__law_name K)) (d__law_order : Dv K mg "_law_order" (top 30) ["cell", "name", "side", "plan"]) (G__law_order : FnOk P w K mg base CX0 3 d__law_order.f d__law_order.fd ["cell", "name", "side", "plan"] (sp__law_order K)) (d__law_ahead : Dv K mg "_law_ahead" (top 31) ["side", "price", "other"]) (G__law_ahead : FnOk P w K mg base CX0 1 d__law_ahead.f d__law_ahead.fd ["side", "price", "other"] (sp__law_ahead K)) : FnOk P w K mg base CX0 4 d__law_lines.f d__law_lines.fd ["script"] (sp__law_lines K) := by
  refine d__law_lines.F.ok sc__law_lines (fun vs H Q E h => ?_) (fun cdv A outer s H vs Q E hr h => ?_)
  · obtain ⟨_, _, rfl, _⟩ := h; rfl
  obtain ⟨a, ns, rfl, hS, hn, q⟩ := h
  refine ⟨_, (pss_cons (ps_set (i := 1) sc__law_lines.nd rfl (Or.inl rfl) (pe_call G__law_cell_at (hr.mono (by decide)) rfl d__law_cell_at.m d__law_cell_at.F.kp d__law_cell_at.b .nil pass0 (pa_cons (pv 0) (pa_cons pe_int pa_nil)))) (pss_cons (ps_set (i := 2) sc__law_lines.nd rfl (Or.inl rfl) (pe_call G__law_cell_at (hr.mono (by decide)) rfl d__law_cell_at.m d__law_cell_at.F.kp d__law_cell_at.b .nil pass0 (pa_cons (pv 0) (pa_cons pe_int pa_nil)))) (pss_cons (ps_set (i := 3) sc__law_lines.nd rfl (Or.inl rfl) (pe_lst (pa_cons (pe_lst pa_nil) (pa_cons (pe_lst pa_nil) pa_nil)))) (pss_cons (ps_set (i := 4) sc__law_lines.nd rfl (Or.inl rfl) (pe_slice sl_list (pv 0) (po_some pe_int) (po_some pe_int))) (pss_cons (ps_for PassesOwn.never rfl (pi_range1 rfl B.b_range (pa_cons (pe_callB call_len_seq rfl B.b_len PySem.boot_len (pa_cons (pv 4) pa_nil)) pa_nil)) (pg_name (i := 5) sc__law_lines.nd rfl (Or.inl rfl)) (pss_cons (ps_set (i := 6) sc__law_lines.nd rfl (Or.inl rfl) (pe_call G__law_name (hr.mono (by decide)) rfl d__law_name.m d__law_name.F.kp d__law_name.b .nil pass0 (pa_cons (pe_ix ix_list (pe_lst (pa_cons (pv 2) (pa_cons (pe_ix ix_list (pv 4) (pv 5) (fun _ _ => rfl)) pa_nil))) (pe_op op_mod (pv 2) pe_int) (fun _ _ => rfl)) (pa_cons (pv 5) (pa_cons (pe_op op_mod (pe_op op_fdiv (pv 2) pe_int) pe_int) pa_nil))))) (pss_cons (ps_set (i := 7) sc__law_lines.nd rfl (Or.inl rfl) (pe_op op_mod (pe_ix ix_list (pv 4) (pv 5) (fun _ _ => rfl)) pe_int)) (pss_cons (ps_set (i := 8) sc__law_lines.nd rfl (Or.inl rfl) (pe_call G__law_order (hr.mono (by decide)) rfl d__law_order.m d__law_order.F.kp d__law_order.b .nil pass0 (pa_cons (pe_ix ix_list (pv 4) (pv 5) (fun _ _ => rfl)) (pa_cons (pv 6) (pa_cons (pe_ix ix_list (pe_lst (pa_cons pe_str (pa_cons pe_str pa_nil))) (pv 7) (fun _ _ => rfl)) (pa_cons (pv 1) pa_nil)))))) (pss_cons (ps_set (i := 9) sc__law_lines.nd rfl (Or.inl rfl) (pe_ix ix_list (pv 3) (pv 7) (fun _ _ => rfl))) (pss_cons (ps_set (i := 10) sc__law_lines.nd rfl (Or.inl rfl) (pe_callB call_len_seq rfl B.b_len PySem.boot_len (pa_cons (pv 9) pa_nil))) (pss_cut (ps_while PassesOwn.never (PW.pt (pw_and (pt_cmpR op_gt (pv 10) pe_int (nomark _)) (pw_and1 (pt_val (pe_call G__law_ahead (hr.mono (by decide)) rfl d__law_ahead.m d__law_ahead.F.kp d__law_ahead.b .nil pass0 (pa_cons (pe_ix ix_tup (pv 8) pe_int (fun _ _ => rfl)) (pa_cons (pe_ix ix_tup (pv 8) pe_int (fun _ _ => rfl)) (pa_cons (pe_ix ix_tup (pe_ix ix_list (pv 9) (pe_op op_sub (pv 10) pe_int) (fun _ _ => rfl)) pe_int (fun _ _ => rfl)) pa_nil)))) (fun _ => rfl))))) (pss_one (ps_set (i := 10) sc__law_lines.nd rfl (Or.inl rfl) (pe_op op_sub (pv 10) pe_int)))) (pss_one (ps_expr (pe_bm PySem.F.plainAttrs_list PySem.F.slot_list_insert PySem.F.type_list_insert mt_insert (pv 9) (pa_cons (pv 10) (pa_cons (pv 8) pa_nil)))))))))))) (pss_one (ps_ret (pv 3)))))))), ?_⟩
  refine ⟨_, rfl, a, ns, _, rfl, hS, by decide, ?_⟩
  refine ⟨_, rfl, a, ns, _, rfl, hS, by decide, ?_⟩
  refine ⟨by walk_at "sz", fun l1 hl1 => ⟨by walk_at "sz", fun l2 hl2 => ⟨by walk_at "sz", fun L hL => ?_⟩⟩⟩
  have sA := same_upd (u := .lst []) hl1
  have sB := same_upd' (u := .lst []) sA hl2
  have sC := same_upd' (u := .lst [V.ref l1, V.ref l2]) sB hL
  have n12 : l1 ≠ l2 := ne_of_none (H := upd H l1 (.lst [])) upd_same hl2
  have nL1 : l1 ≠ L := ne_of_none (H := upd (upd H l1 (.lst [])) l2 (.lst [])) (at_upd upd_same hl2) hL
  have nL2 : l2 ≠ L := ne_of_none (H := upd (upd H l1 (.lst [])) l2 (.lst [])) upd_same hL
  refine ⟨_, rfl, _, rfl, _, rfl, a, _, rfl, sC.seq hS, fun p hp0 => ?_⟩
  obtain ⟨cs, ecs, hcs⟩ : ∃ cs : List Int, cutV (ns.map V.int) (some 2) (some 50) = cs.map V.int ∧ cs.length ≤ 48 := by
    refine ⟨_, cut_ints ns _ _, ?_⟩
    rw [List.length_take, List.length_drop]
    have h2 : HT.sIx ns.length 0 (some 2) = min 2 ns.length := HT.sIx_nat _ _ 2
    have h3 : HT.sIx ns.length ns.length (some 50) = min 50 ns.length := HT.sIx_nat _ _ 50
    rw [h2, h3]
    omega
  have sD := same_upd' (u := .lst (cutV (ns.map V.int) (some 2) (some 50))) sC hp0
  have np1 : l1 ≠ p := ne_of_none (H := upd (upd (upd H l1 (.lst [])) l2 (.lst [])) L (.lst [V.ref l1, V.ref l2])) (at_upd (at_upd upd_same hl2) hL) hp0
  have np2 : l2 ≠ p := ne_of_none (H := upd (upd (upd H l1 (.lst [])) l2 (.lst [])) L (.lst [V.ref l1, V.ref l2])) (at_upd upd_same hL) hp0
  have f1 : H l1 = none := hl1
  have f2 : H l2 = none := sA.free hl2
  have ej : (((cutV (ns.map V.int) (some 2) (some 50)).length : Nat) : Int) = (cs.length : Int) := by rw [ecs, List.length_map]
  refine ⟨_, rfl, p, _, rfl, .inl (.inl (.inl upd_same)), _, rfl, by rw [ej]; omega, by rw [ej]; omega, ?_⟩
  refine for_range (lo := 0) (fun i σ H' => ∃ (pb ps : List AO) (v5 v6 v7 v8 v9 v10 : Option V), σ = [some (.ref a), some (.int (cell ns 0)), some (.int (cell ns 1)), some (.ref L), some (.ref p), v5, v6, v7, v8, v9, v10] ∧ Same H H' ∧ H' p = some (.lst (cs.map V.int)) ∧ H' L = some (.lst [V.ref l1, V.ref l2]) ∧ H' l1 = some (.lst (pb.map rf)) ∧ H' l2 = some (.lst (ps.map rf)) ∧ Ords H' pb ∧ Ords H' ps ∧ (∀ x ∈ pb, GoodO "buy" x.2) ∧ (∀ x ∈ ps, GoodO "sell" x.2) ∧ Up "buy" (pb.map (·.2)) ∧ Up "sell" (ps.map (·.2)) ∧ pb.length + ps.length ≤ i)
    ⟨[], [], _, _, _, _, _, _, rfl, sD, by rw [upd_same, ecs], at_upd upd_same hp0, at_upd (at_upd (at_upd upd_same hl2) hL) hp0, at_upd (at_upd upd_same hL) hp0, fun _ z => (by cases z), fun _ z => (by cases z), fun _ z => (by cases z), fun _ z => (by cases z), List.Pairwise.nil, List.Pairwise.nil, Nat.le_refl _⟩ (fun i σ H' hi z => ?_) (fun σ H' z => ?_)
  · obtain ⟨pb, ps, v5, v6, v7, v8, v9, v10, rfl, sm, hp, hL, h1, h2, hO1, hO2, d1, d2, u1, u2, hc⟩ := z
    have hi' : i < cs.length := by rw [ej] at hi; omega
    obtain ⟨c, ec⟩ : ∃ c, cs[i]? = some c := ⟨cs[i], List.getElem?_eq_getElem hi'⟩
    have atc : atI (cs.map V.int) (0 + (i : Int)) = some (V.int c) := by rw [Int.zero_add]; exact atI_nat (by rw [List.getElem?_map, ec]; rfl)
    obtain ⟨x0, hx⟩ : ∃ x0, atI [V.int (cell ns 1), V.int c] (cell ns 1 % 2) = some (V.int x0) := by
      have : cell ns 1 % 2 = 0 ∨ cell ns 1 % 2 = 1 := by omega
      rcases this with e | e
      · exact ⟨cell ns 1, by rw [e]; rfl⟩
      · exact ⟨c, by rw [e]; rfl⟩
    have : c % 2 = 0 ∨ c % 2 = 1 := by omega
    rcases this with hw | hw
    · refine ⟨_, rfl, _, rfl, _, rfl, p, _, _, _, rfl, rfl, .inl (.inl hp), atc, by walk_at "sz", fun q1 hq1 => ?_⟩
      refine ⟨_, rfl, _, _, rfl, rfl, (by walk_at "side"), q1, _, _, _, rfl, rfl, .inl (.inl upd_same), hx, _, rfl, _, rfl, _, _, rfl, rfl, ⟨by decide, by decide⟩, _, _, rfl, rfl, (by walk_at "side"), _, _, _, rfl, by omega, by omega, fun z hz => ?_⟩
      have s1 := same_upd (u := .lst [V.int (cell ns 1), V.int c]) hq1
      refine ⟨_, rfl, _, rfl, p, _, _, _, rfl, rfl, .inl (.inl (s1 _ _ hp)), atc, _, _, rfl, rfl, (by walk_at "side"), ?_⟩
      refine ⟨_, rfl, _, rfl, p, _, _, _, rfl, rfl, .inl (.inl (s1 _ _ hp)), atc, _, rfl, by walk_at "sz", fun q2 hq2 => ?_⟩
      have s2 := s1.trans (same_upd (u := .lst [V.str "buy", V.str "sell"]) hq2)
      refine ⟨_, rfl, q2, _, _, _, rfl, rfl, .inl (.inl upd_same), (by rw [hw]; rfl), _, rfl, c, z, "buy", _, rfl, fun H5 t w0 pr l sh pk s5 ht hlq hpq => ?_⟩
      have sm2 := s2.trans s5
      refine ⟨_, rfl, _, rfl, L, _, _, _, rfl, rfl, .inl (.inl (sm2 _ _ hL)), (by rw [hw]; rfl), ?_⟩
      have hln := sm2 _ _ h1
      refine ⟨_, rfl, l1, _, rfl, .inl (.inl (.inl hln)), ?_⟩
      have hOp := hO1.same sm2
      refine ⟨fun σ' H' => ∃ k : Nat, k ≤ pb.length ∧ σ' = [some (.ref a), some (.int (cell ns 0)), some (.int (cell ns 1)), some (.ref L), some (.ref p), some (.int (0 + (i : Int))), some (.str z), some (.int (c % 2)), some (.ref t), some (.ref l1), some (.int k)] ∧ H5 = H' ∧ (∀ y ∈ pb.drop k, aheadB "buy" pr y.2.pr = true) ∧ ∀ y ∈ pb.take k, aheadB "buy" pr y.2.pr = false, ?_, ?_⟩
      · refine ⟨fun m σ' H' => m ≤ pb.length ∧ σ' = [some (.ref a), some (.int (cell ns 0)), some (.int (cell ns 1)), some (.ref L), some (.ref p), some (.int (0 + (i : Int))), some (.str z), some (.int (c % 2)), some (.ref t), some (.ref l1), some (.int m)] ∧ H5 = H' ∧ ∀ y ∈ pb.drop m, aheadB "buy" pr y.2.pr = true, ⟨pb.length, Nat.le_refl _, by rw [List.length_map]; rfl, rfl, by rw [List.drop_length]; exact fun y hy => nomatch hy⟩, ?_⟩
        rintro m _ _ ⟨hm, rfl, rfl, hdr⟩
        refine ⟨_, rfl, _, _, rfl, rfl, _, rfl, ?_⟩
        refine ite2 (fun c1 => ?_) (fun c0 => ?_)
        · have c2 : 0 < m := by have : (0 : Int) < (m : Int) := of_decide_eq_true c1; omega
          have hm1 : m - 1 < pb.length := by omega
          obtain ⟨x, hx0⟩ : ∃ x, pb[m - 1]? = some x := ⟨_, List.getElem?_eq_getElem hm1⟩
          have hxm : x ∈ pb := List.mem_of_getElem? hx0
          have ax : atI (pb.map rf) ((m : Int) - 1) = some (rf x) := by rw [show ((m : Int) - 1) = ((m - 1 : Nat) : Int) by omega]; exact atI_nat (by rw [List.getElem?_map, hx0]; rfl)
          refine ⟨_, rfl, t, _, _, _, rfl, rfl, .inl (.inl ht), rfl, _, rfl, t, _, _, _, rfl, rfl, .inl (.inl ht), rfl, _, rfl, _, rfl, _, _, rfl, rfl, l1, _, _, _, rfl, rfl, .inl (.inl hln), ax, x.1, _, _, _, rfl, rfl, .inl (.inl (hOp x hxm)), rfl, _, _, _, rfl, _, rfl, ?_⟩
          refine ite2 (fun ca => ?_) (fun cb => ?_)
          · refine ⟨fun σ' H' => σ' = [some (.ref a), some (.int (cell ns 0)), some (.int (cell ns 1)), some (.ref L), some (.ref p), some (.int (0 + (i : Int))), some (.str z), some (.int (c % 2)), some (.ref t), some (.ref l1), some (.int ((m : Int) - 1))] ∧ H5 = H', ?_, _, rfl, _, _, rfl, rfl, rfl, rfl⟩
            rintro _ _ ⟨rfl, rfl⟩
            exact ⟨m - 1, by omega, by omega, by rw [show (((m - 1 : Nat) : Int)) = (m : Int) - 1 by omega], rfl, fun y hy => by rw [drop_pred hx0 c2] at hy; exact (List.mem_cons.mp hy).elim (fun z => z ▸ ca) (hdr y)⟩
          · exact ⟨m, hm, rfl, rfl, hdr, take_up u1 hx0 c2 (by simpa using cb)⟩
        · have m0 : m = 0 := by
            have : ¬ (0 : Int) < (m : Int) := fun z => c0 (decide_eq_true z)
            omega
          subst m0
          exact iteF ⟨0, hm, rfl, rfl, hdr, fun y hy => nomatch hy⟩
      rintro _ _ ⟨k, hk, rfl, rfl, hdr, htk⟩
      refine ⟨_, rfl, .inl ⟨rfl, _, .inl (.inl hln)⟩, _, rfl, _, rfl, l1, _, k, _, rfl, rfl, hln, by rw [List.length_map]; exact hk, by rw [List.length_map]; exact szLt (by omega), ?_⟩
      refine ⟨pb.take k ++ ((t, (⟨z, w0, "buy", pr, l, sh, pk⟩ : Od)) : AO) :: pb.drop k, ps, _, _, _, _, _, _, rfl, same_updN (sm.trans sm2) f1, upd_oth (sm2 _ _ hp) np1.symm, upd_oth (sm2 _ _ hL) nL1.symm, ?_, upd_oth (sm2 _ _ h2) n12.symm, ?_, (hO2.same sm2).upd hln, ?_, d2, up_insA u1 htk hdr, u2, ?_⟩
      · rw [upd_same, List.map_append, List.map_cons, List.map_take, List.map_drop]; rfl
      · intro y hy
        rcases List.mem_append.mp hy with hy | hy
        · exact (hOp.upd hln) y (List.mem_of_mem_take hy)
        rcases List.mem_cons.mp hy with rfl | hy
        · exact upd_tup ht hln
        · exact (hOp.upd hln) y (List.mem_of_mem_drop hy)
      · intro y hy
        rcases List.mem_append.mp hy with hy | hy
        · exact d1 y (List.mem_of_mem_take hy)
        rcases List.mem_cons.mp hy with rfl | hy
        · exact ⟨rfl, hlq, hpq⟩
        · exact d1 y (List.mem_of_mem_drop hy)
      · rw [List.length_append, List.length_cons, List.length_take, List.length_drop]
        omega
    · refine ⟨_, rfl, _, rfl, _, rfl, p, _, _, _, rfl, rfl, .inl (.inl hp), atc, by walk_at "sz", fun q1 hq1 => ?_⟩
      refine ⟨_, rfl, _, _, rfl, rfl, (by walk_at "side"), q1, _, _, _, rfl, rfl, .inl (.inl upd_same), hx, _, rfl, _, rfl, _, _, rfl, rfl, ⟨by decide, by decide⟩, _, _, rfl, rfl, (by walk_at "side"), _, _, _, rfl, by omega, by omega, fun z hz => ?_⟩
      have s1 := same_upd (u := .lst [V.int (cell ns 1), V.int c]) hq1
      refine ⟨_, rfl, _, rfl, p, _, _, _, rfl, rfl, .inl (.inl (s1 _ _ hp)), atc, _, _, rfl, rfl, (by walk_at "side"), ?_⟩
      refine ⟨_, rfl, _, rfl, p, _, _, _, rfl, rfl, .inl (.inl (s1 _ _ hp)), atc, _, rfl, by walk_at "sz", fun q2 hq2 => ?_⟩
      have s2 := s1.trans (same_upd (u := .lst [V.str "buy", V.str "sell"]) hq2)
      refine ⟨_, rfl, q2, _, _, _, rfl, rfl, .inl (.inl upd_same), (by rw [hw]; rfl), _, rfl, c, z, "sell", _, rfl, fun H5 t w0 pr l sh pk s5 ht hlq hpq => ?_⟩
      have sm2 := s2.trans s5
      refine ⟨_, rfl, _, rfl, L, _, _, _, rfl, rfl, .inl (.inl (sm2 _ _ hL)), (by rw [hw]; rfl), ?_⟩
      have hln := sm2 _ _ h2
      refine ⟨_, rfl, l2, _, rfl, .inl (.inl (.inl hln)), ?_⟩
      have hOp := hO2.same sm2
      refine ⟨fun σ' H' => ∃ k : Nat, k ≤ ps.length ∧ σ' = [some (.ref a), some (.int (cell ns 0)), some (.int (cell ns 1)), some (.ref L), some (.ref p), some (.int (0 + (i : Int))), some (.str z), some (.int (c % 2)), some (.ref t), some (.ref l2), some (.int k)] ∧ H5 = H' ∧ (∀ y ∈ ps.drop k, aheadB "sell" pr y.2.pr = true) ∧ ∀ y ∈ ps.take k, aheadB "sell" pr y.2.pr = false, ?_, ?_⟩
      · refine ⟨fun m σ' H' => m ≤ ps.length ∧ σ' = [some (.ref a), some (.int (cell ns 0)), some (.int (cell ns 1)), some (.ref L), some (.ref p), some (.int (0 + (i : Int))), some (.str z), some (.int (c % 2)), some (.ref t), some (.ref l2), some (.int m)] ∧ H5 = H' ∧ ∀ y ∈ ps.drop m, aheadB "sell" pr y.2.pr = true, ⟨ps.length, Nat.le_refl _, by rw [List.length_map]; rfl, rfl, by rw [List.drop_length]; exact fun y hy => nomatch hy⟩, ?_⟩
        rintro m _ _ ⟨hm, rfl, rfl, hdr⟩
        refine ⟨_, rfl, _, _, rfl, rfl, _, rfl, ?_⟩
        refine ite2 (fun c1 => ?_) (fun c0 => ?_)
        · have c2 : 0 < m := by have : (0 : Int) < (m : Int) := of_decide_eq_true c1; omega
          have hm1 : m - 1 < ps.length := by omega
          obtain ⟨x, hx0⟩ : ∃ x, ps[m - 1]? = some x := ⟨_, List.getElem?_eq_getElem hm1⟩
          have hxm : x ∈ ps := List.mem_of_getElem? hx0
          have ax : atI (ps.map rf) ((m : Int) - 1) = some (rf x) := by rw [show ((m : Int) - 1) = ((m - 1 : Nat) : Int) by omega]; exact atI_nat (by rw [List.getElem?_map, hx0]; rfl)
          refine ⟨_, rfl, t, _, _, _, rfl, rfl, .inl (.inl ht), rfl, _, rfl, t, _, _, _, rfl, rfl, .inl (.inl ht), rfl, _, rfl, _, rfl, _, _, rfl, rfl, l2, _, _, _, rfl, rfl, .inl (.inl hln), ax, x.1, _, _, _, rfl, rfl, .inl (.inl (hOp x hxm)), rfl, _, _, _, rfl, _, rfl, ?_⟩
          refine ite2 (fun ca => ?_) (fun cb => ?_)
          · refine ⟨fun σ' H' => σ' = [some (.ref a), some (.int (cell ns 0)), some (.int (cell ns 1)), some (.ref L), some (.ref p), some (.int (0 + (i : Int))), some (.str z), some (.int (c % 2)), some (.ref t), some (.ref l2), some (.int ((m : Int) - 1))] ∧ H5 = H', ?_, _, rfl, _, _, rfl, rfl, rfl, rfl⟩
            rintro _ _ ⟨rfl, rfl⟩
            exact ⟨m - 1, by omega, by omega, by rw [show (((m - 1 : Nat) : Int)) = (m : Int) - 1 by omega], rfl, fun y hy => by rw [drop_pred hx0 c2] at hy; exact (List.mem_cons.mp hy).elim (fun z => z ▸ ca) (hdr y)⟩
          · exact ⟨m, hm, rfl, rfl, hdr, take_up u2 hx0 c2 (by simpa using cb)⟩
        · have m0 : m = 0 := by
            have : ¬ (0 : Int) < (m : Int) := fun z => c0 (decide_eq_true z)
            omega
          subst m0
          exact iteF ⟨0, hm, rfl, rfl, hdr, fun y hy => nomatch hy⟩
      rintro _ _ ⟨k, hk, rfl, rfl, hdr, htk⟩
      refine ⟨_, rfl, .inl ⟨rfl, _, .inl (.inl hln)⟩, _, rfl, _, rfl, l2, _, k, _, rfl, rfl, hln, by rw [List.length_map]; exact hk, by rw [List.length_map]; exact szLt (by omega), ?_⟩
      refine ⟨pb, ps.take k ++ ((t, (⟨z, w0, "sell", pr, l, sh, pk⟩ : Od)) : AO) :: ps.drop k, _, _, _, _, _, _, rfl, same_updN (sm.trans sm2) f2, upd_oth (sm2 _ _ hp) np2.symm, upd_oth (sm2 _ _ hL) nL2.symm, upd_oth (sm2 _ _ h1) n12, ?_, (hO1.same sm2).upd hln, ?_, d1, ?_, u1, up_insA u2 htk hdr, ?_⟩
      · rw [upd_same, List.map_append, List.map_cons, List.map_take, List.map_drop]; rfl
      · intro y hy
        rcases List.mem_append.mp hy with hy | hy
        · exact (hOp.upd hln) y (List.mem_of_mem_take hy)
        rcases List.mem_cons.mp hy with rfl | hy
        · exact upd_tup ht hln
        · exact (hOp.upd hln) y (List.mem_of_mem_drop hy)
      · intro y hy
        rcases List.mem_append.mp hy with hy | hy
        · exact d2 y (List.mem_of_mem_take hy)
        rcases List.mem_cons.mp hy with rfl | hy
        · exact ⟨rfl, hlq, hpq⟩
        · exact d2 y (List.mem_of_mem_drop hy)
      · rw [List.length_append, List.length_cons, List.length_take, List.length_drop]
        omega
  · obtain ⟨pb, ps, v5, v6, v7, v8, v9, v10, rfl, sm, hp, hL, h1, h2, hO1, hO2, d1, d2, u1, u2, hc⟩ := z
    rw [ej] at hc
    exact ⟨_, rfl, q _ L l1 l2 pb ps sm hL h1 h2 n12 hO1 hO2 d1 d2 u1 u2 (by omega)⟩
theorem sc__law_orders : FnScope ["found", "order", "k"] ["found"] (defScope (top 33)) := ⟨rfl, rfl, rfl, by decide +kernel, rfl, by decide +kernel, by decide +kernel⟩
def sp__law_orders (K : PySem.W.Frag) : Sp := fun vs H Q _ => ∃ (f : Addr) (ps : List AO), vs = [.ref f] ∧ H f = some (.lst (ps.map rf)) ∧ Ords H ps ∧ Q (.bl true) H
theorem ok__law_orders (d__law_orders : Dv K mg "_law_orders" (top 33) ["found"]) (B : Bl mg) (C : Co mg) (R : Er K mg) (d__law_whole : Dv K mg "_law_whole" (top 25) ["found"]) (G__law_whole : FnOk P w K mg base CX0 1 d__law_whole.f d__law_whole.fd ["found"] (sp__law_whole K)) : FnOk P w K mg base CX0 2 d__law_orders.f d__law_orders.fd ["found"] (sp__law_orders K) := by
  refine d__law_orders.F.ok sc__law_orders (fun vs H Q E h => ?_) (fun cdv A outer s H vs Q E hr h => ?_)
  · obtain ⟨_, _, rfl, _⟩ := h; rfl
  obtain ⟨f, ps, rfl, hf, hO, q⟩ := h
  refine ⟨_, (pss_cons (ps_if (pt_not (pt_val (pe_callB call_isinst rfl B.b_isinstance PyProof.Rows.boot_isinstance (pa_cons (pv 0) (pa_cons (pe_bltn (v := .ty "list") rfl B.b_list PyProof.Rows.boot_list rfl) pa_nil))) (fun _ => rfl))) (pss_one (ps_ret pe_bl)) pss_nil) (pss_cons (ps_for PassesOwn.never rfl (pi_list (pv 0)) (pg_name (i := 1) sc__law_orders.nd rfl (Or.inl rfl)) (pss_cons (ps_if (PW.pt (pw_or (pt_not (pt_val (pe_callB call_isinst rfl B.b_isinstance PyProof.Rows.boot_isinstance (pa_cons (pv 1) (pa_cons (pe_bltn (v := .ty "tuple") rfl B.b_tuple PyProof.Rows.boot_tuple rfl) pa_nil))) (fun _ => rfl))) (pw_or1 (pt_cmpR op_ne (pe_callB call_len_seq rfl B.b_len PySem.boot_len (pa_cons (pv 1) pa_nil)) pe_int (nomark _))))) (pss_one (ps_ret pe_bl)) pss_nil) (pss_one (ps_for PassesOwn.never rfl (pi_range1 rfl B.b_range (pa_cons pe_int pa_nil)) (pg_name (i := 2) sc__law_orders.nd rfl (Or.inl rfl)) (pss_one (ps_if (PW.pt (pw_or (PW.pt (pw_and (pt_cmpR op_lt (pv 2) pe_int (nomark _)) (pw_and1 (pt_not (pt_val (pe_callB call_isinst rfl B.b_isinstance PyProof.Rows.boot_isinstance (pa_cons (pe_ix ix_tup (pv 1) (pv 2) (fun _ _ => rfl)) (pa_cons (pe_bltn (v := .ty "str") rfl B.b_str PyProof.Rows.boot_str rfl) pa_nil))) (fun _ => rfl)))))) (pw_or1 (PW.pt (pw_and (pt_cmpR op_gt (pv 2) pe_int (nomark _)) (pw_and1 (pt_not (pt_val (pe_call G__law_whole (hr.mono (by decide)) rfl d__law_whole.m d__law_whole.F.kp d__law_whole.b .nil pass0 (pa_cons (pe_ix ix_tup (pv 1) (pv 2) (fun _ _ => rfl)) pa_nil)) (fun _ => rfl))))))))) (pss_one (ps_ret pe_bl)) pss_nil)))))) (pss_one (ps_ret pe_bl)))), ?_⟩
  refine ⟨_, rfl, _, _, _, _, true, rfl, .lst hf, rfl, rfl, _, rfl, iteF ?_⟩
  refine ⟨_, rfl, f, rfl, ⟨_, .inl (.inl hf)⟩, ?_⟩
  refine for_list (K := K) (a := f) (xs := ps.map rf) (fun i σ H' => H = H' ∧ ∃ v1 v2, σ = [some (.ref f), v1, v2]) ⟨rfl, none, none, rfl⟩ (fun i σ H' _ z => ?_) (fun i x σ H' hx z => ?_) (fun σ H' z => ?_)
  · obtain ⟨rfl, _⟩ := z
    exact .inl (.inl hf)
  · obtain ⟨rfl, v1, v2, rfl⟩ := z
    obtain ⟨y, rfl, hy, hym⟩ := get_rf hx
    have ht := hO y hym
    refine ⟨_, rfl, _, _, _, _, true, rfl, .tup ht, rfl, rfl, _, rfl, iteF ?_⟩
    refine ⟨_, rfl, y.1, _, rfl, .inr (.inl (.inl ht)), rfl, _, rfl, iteF ?_⟩
    refine ⟨7, rfl, by decide, by decide, ?_⟩
    refine for_range (lo := 0) (fun _ σ H' => H = H' ∧ ∃ v2, σ = [some (.ref f), some (rf y), v2]) ⟨rfl, v2, rfl⟩ (fun i σ H' hi z => ?_) (fun σ H' z => ?_)
    · obtain ⟨rfl, v2, rfl⟩ := z
      have hi' : i < 7 := hi
      match i, hi' with
      | 0, _ =>
        refine ⟨_, rfl, _, _, rfl, rfl, _, rfl, ?_⟩
        refine ite2 (fun _ => ?_) (fun c => absurd (by decide) c)
        refine ⟨_, rfl, _, rfl, y.1, _, _, _, rfl, rfl, .inl (.inl ht), rfl, _, _, _, _, true, rfl, .str _, rfl, rfl, _, rfl, iteF ?_⟩
        refine ⟨_, rfl, _, _, rfl, rfl, _, rfl, ?_⟩
        refine ite2 (fun c => absurd c (by decide)) fun _ => ?_
        exact iteF ⟨rfl, _, rfl⟩
      | 1, _ =>
        refine ⟨_, rfl, _, _, rfl, rfl, _, rfl, ?_⟩
        refine ite2 (fun _ => ?_) (fun c => absurd (by decide) c)
        refine ⟨_, rfl, _, rfl, y.1, _, _, _, rfl, rfl, .inl (.inl ht), rfl, _, _, _, _, true, rfl, .str _, rfl, rfl, _, rfl, iteF ?_⟩
        refine ⟨_, rfl, _, _, rfl, rfl, _, rfl, ?_⟩
        refine ite2 (fun c => absurd c (by decide)) fun _ => ?_
        exact iteF ⟨rfl, _, rfl⟩
      | 2, _ =>
        refine ⟨_, rfl, _, _, rfl, rfl, _, rfl, ?_⟩
        refine ite2 (fun _ => ?_) (fun c => absurd (by decide) c)
        refine ⟨_, rfl, _, rfl, y.1, _, _, _, rfl, rfl, .inl (.inl ht), rfl, _, _, _, _, true, rfl, .str _, rfl, rfl, _, rfl, iteF ?_⟩
        refine ⟨_, rfl, _, _, rfl, rfl, _, rfl, ?_⟩
        refine ite2 (fun c => absurd c (by decide)) fun _ => ?_
        exact iteF ⟨rfl, _, rfl⟩
      | 3, _ =>
        refine ⟨_, rfl, _, _, rfl, rfl, _, rfl, ?_⟩
        refine ite2 (fun c => absurd c (by decide)) fun _ => ?_
        refine iteF ?_
        refine ⟨_, rfl, _, _, rfl, rfl, _, rfl, ?_⟩
        refine ite2 (fun _ => ?_) (fun c => absurd (by decide) c)
        exact ⟨_, rfl, _, rfl, y.1, _, _, _, rfl, rfl, .inl (.inl ht), rfl, _, rfl, _, rfl, iteF ⟨rfl, _, rfl⟩⟩
      | 4, _ =>
        refine ⟨_, rfl, _, _, rfl, rfl, _, rfl, ?_⟩
        refine ite2 (fun c => absurd c (by decide)) fun _ => ?_
        refine iteF ?_
        refine ⟨_, rfl, _, _, rfl, rfl, _, rfl, ?_⟩
        refine ite2 (fun _ => ?_) (fun c => absurd (by decide) c)
        exact ⟨_, rfl, _, rfl, y.1, _, _, _, rfl, rfl, .inl (.inl ht), rfl, _, rfl, _, rfl, iteF ⟨rfl, _, rfl⟩⟩
      | 5, _ =>
        refine ⟨_, rfl, _, _, rfl, rfl, _, rfl, ?_⟩
        refine ite2 (fun c => absurd c (by decide)) fun _ => ?_
        refine iteF ?_
        refine ⟨_, rfl, _, _, rfl, rfl, _, rfl, ?_⟩
        refine ite2 (fun _ => ?_) (fun c => absurd (by decide) c)
        exact ⟨_, rfl, _, rfl, y.1, _, _, _, rfl, rfl, .inl (.inl ht), rfl, _, rfl, _, rfl, iteF ⟨rfl, _, rfl⟩⟩
      | 6, _ =>
        refine ⟨_, rfl, _, _, rfl, rfl, _, rfl, ?_⟩
        refine ite2 (fun c => absurd c (by decide)) fun _ => ?_
        refine iteF ?_
        refine ⟨_, rfl, _, _, rfl, rfl, _, rfl, ?_⟩
        refine ite2 (fun _ => ?_) (fun c => absurd (by decide) c)
        exact ⟨_, rfl, _, rfl, y.1, _, _, _, rfl, rfl, .inl (.inl ht), rfl, _, rfl, _, rfl, iteF ⟨rfl, _, rfl⟩⟩
    · obtain ⟨rfl, v2, rfl⟩ := z
      exact ⟨rfl, _, _, rfl⟩
  · obtain ⟨rfl, v1, v2, rfl⟩ := z
    exact q
theorem sc__law_told : FnScope ["found", "trade"] ["found"] (defScope (top 34)) := ⟨rfl, rfl, rfl, by decide +kernel, rfl, by decide +kernel, by decide +kernel⟩
def sp__law_told (K : PySem.W.Frag) : Sp := fun vs H Q _ => ∃ (t : Addr) (v : V) (L1 L2 L3 : Addr) (ts : List TR) (qb qs : List AO), vs = [.ref t] ∧ H t = some (.tup [v, .ref L1, .ref L2, .ref L3]) ∧ H L1 = some (.lst (ts.map trR)) ∧ H L2 = some (.lst (qb.map rf)) ∧ H L3 = some (.lst (qs.map rf)) ∧ Trs H ts ∧ Ords H qb ∧ Ords H qs ∧ (v = .non ∨ ∃ p, v = .int p) ∧ Q (.bl true) H
theorem ok__law_told (d__law_told : Dv K mg "_law_told" (top 34) ["found"]) (B : Bl mg) (C : Co mg) (R : Er K mg) (d__law_whole : Dv K mg "_law_whole" (top 25) ["found"]) (G__law_whole : FnOk P w K mg base CX0 1 d__law_whole.f d__law_whole.fd ["found"] (sp__law_whole K)) (d__law_orders : Dv K mg "_law_orders" (top 33) ["found"]) (G__law_orders : FnOk P w K mg base CX0 2 d__law_orders.f d__law_orders.fd ["found"] (sp__law_orders K)) : FnOk P w K mg base CX0 3 d__law_told.f d__law_told.fd ["found"] (sp__law_told K) := by
  refine d__law_told.F.ok sc__law_told (fun vs H Q E h => ?_) (fun cdv A outer s H vs Q E hr h => ?_)
  · obtain ⟨_, _, _, _, _, _, _, _, rfl, _⟩ := h; rfl
  obtain ⟨t, v, L1, L2, L3, ts, qb, qs, rfl, ht, h1, h2, h3, trs, hO1, hO2, hv, q⟩ := h
  refine ⟨_, (pss_cons (ps_if (PW.pt (pw_or (pt_not (pt_val (pe_callB call_isinst rfl B.b_isinstance PyProof.Rows.boot_isinstance (pa_cons (pv 0) (pa_cons (pe_bltn (v := .ty "tuple") rfl B.b_tuple PyProof.Rows.boot_tuple rfl) pa_nil))) (fun _ => rfl))) (pw_or (pt_cmpR op_ne (pe_callB call_len_seq rfl B.b_len PySem.boot_len (pa_cons (pv 0) pa_nil)) pe_int (nomark _)) (pw_or1 (pt_not (pt_val (pe_callB call_isinst rfl B.b_isinstance PyProof.Rows.boot_isinstance (pa_cons (pe_ix ix_tup (pv 0) pe_int (fun _ _ => rfl)) (pa_cons (pe_bltn (v := .ty "list") rfl B.b_list PyProof.Rows.boot_list rfl) pa_nil))) (fun _ => rfl))))))) (pss_one (ps_ret pe_bl)) pss_nil) (pss_cut (ps_if (PW.pt (pw_and (pt_cmpR op_notN (pe_ix ix_tup (pv 0) pe_int (fun _ _ => rfl)) pe_non (nomark _)) (pw_and1 (pt_not (pt_val (pe_call G__law_whole (hr.mono (by decide)) rfl d__law_whole.m d__law_whole.F.kp d__law_whole.b .nil pass0 (pa_cons (pe_ix ix_tup (pv 0) pe_int (fun _ _ => rfl)) pa_nil)) (fun _ => rfl)))))) (pss_one (ps_ret pe_bl)) pss_nil) (pss_cons (ps_for PassesOwn.never rfl (pi_list (pe_ix ix_tup (pv 0) pe_int (fun _ _ => rfl))) (pg_name (i := 1) sc__law_told.nd rfl (Or.inl rfl)) (pss_cons (ps_if (PW.pt (pw_or (pt_not (pt_val (pe_callB call_isinst rfl B.b_isinstance PyProof.Rows.boot_isinstance (pa_cons (pv 1) (pa_cons (pe_bltn (v := .ty "tuple") rfl B.b_tuple PyProof.Rows.boot_tuple rfl) pa_nil))) (fun _ => rfl))) (pw_or (pt_cmpR op_ne (pe_callB call_len_seq rfl B.b_len PySem.boot_len (pa_cons (pv 1) pa_nil)) pe_int (nomark _)) (pw_or1 (pt_not (pt_val (pe_call G__law_whole (hr.mono (by decide)) rfl d__law_whole.m d__law_whole.F.kp d__law_whole.b .nil pass0 (pa_cons (pe_ix ix_tup (pv 1) pe_int (fun _ _ => rfl)) pa_nil)) (fun _ => rfl))))))) (pss_one (ps_ret pe_bl)) pss_nil) (pss_one (ps_if (PW.pt (pw_or (pt_not (pt_val (pe_callB call_isinst rfl B.b_isinstance PyProof.Rows.boot_isinstance (pa_cons (pe_ix ix_tup (pv 1) pe_int (fun _ _ => rfl)) (pa_cons (pe_bltn (v := .ty "str") rfl B.b_str PyProof.Rows.boot_str rfl) pa_nil))) (fun _ => rfl))) (pw_or1 (pt_not (pt_val (pe_callB call_isinst rfl B.b_isinstance PyProof.Rows.boot_isinstance (pa_cons (pe_ix ix_tup (pv 1) pe_int (fun _ _ => rfl)) (pa_cons (pe_bltn (v := .ty "str") rfl B.b_str PyProof.Rows.boot_str rfl) pa_nil))) (fun _ => rfl)))))) (pss_one (ps_ret pe_bl)) pss_nil)))) (pss_one (ps_ret (pe_and (pe_call G__law_orders (hr.mono (by decide)) rfl d__law_orders.m d__law_orders.F.kp d__law_orders.b .nil pass0 (pa_cons (pe_ix ix_tup (pv 0) pe_int (fun _ _ => rfl)) pa_nil)) (pe_one (pe_call G__law_orders (hr.mono (by decide)) rfl d__law_orders.m d__law_orders.F.kp d__law_orders.b .nil pass0 (pa_cons (pe_ix ix_tup (pv 0) pe_int (fun _ _ => rfl)) pa_nil))))))))), ?_⟩
  refine ⟨_, rfl, _, _, _, _, true, rfl, .tup ht, rfl, rfl, _, rfl, iteF ?_⟩
  refine ⟨_, rfl, t, _, rfl, .inr (.inl (.inl ht)), rfl, _, rfl, iteF ?_⟩
  refine ⟨_, rfl, t, _, _, _, rfl, rfl, .inl (.inl ht), rfl, _, _, _, _, true, rfl, .lst h1, rfl, rfl, _, rfl, iteF ?_⟩
  refine ⟨fun σ' H' => σ' = [some (.ref t), none] ∧ H = H', ?_, ?_⟩
  · rcases hv with rfl | ⟨p, rfl⟩
    · exact ⟨_, rfl, t, _, _, _, rfl, rfl, .inl (.inl ht), rfl, rfl, _, rfl, iteF (iteF ⟨rfl, rfl⟩)⟩
    · refine ⟨_, rfl, t, _, _, _, rfl, rfl, .inl (.inl ht), rfl, rfl, _, rfl, iteT ?_⟩
      exact ⟨_, rfl, t, _, _, _, rfl, rfl, .inl (.inl ht), rfl, p, rfl, _, rfl, iteF ⟨rfl, rfl⟩⟩
  rintro _ _ ⟨rfl, rfl⟩
  refine ⟨_, rfl, t, _, _, _, rfl, rfl, .inl (.inl ht), rfl, L1, rfl, ⟨_, .inl (.inl h1)⟩, ?_⟩
  refine for_list (K := K) (a := L1) (xs := ts.map trR) (fun i σ H' => H = H' ∧ ∃ v1, σ = [some (.ref t), v1]) ⟨rfl, none, rfl⟩ (fun i σ H' _ z => ?_) (fun i x σ H' hx z => ?_) (fun σ H' z => ?_)
  · obtain ⟨rfl, _⟩ := z
    exact .inl (.inl h1)
  · obtain ⟨rfl, v1, rfl⟩ := z
    obtain ⟨y, rfl, hy0, hym⟩ := get_tr hx
    have hy := trs y hym
    refine ⟨_, rfl, _, _, _, _, true, rfl, .tup hy, rfl, rfl, _, rfl, iteF ?_⟩
    refine ⟨_, rfl, y.1, _, rfl, .inr (.inl (.inl hy)), rfl, _, rfl, iteF ?_⟩
    refine ⟨_, rfl, y.1, _, _, _, rfl, rfl, .inl (.inl hy), rfl, _, rfl, _, rfl, iteF ?_⟩
    refine ⟨_, rfl, y.1, _, _, _, rfl, rfl, .inl (.inl hy), rfl, _, _, _, _, true, rfl, .str _, rfl, rfl, _, rfl, iteF ?_⟩
    refine ⟨_, rfl, y.1, _, _, _, rfl, rfl, .inl (.inl hy), rfl, _, _, _, _, true, rfl, .str _, rfl, rfl, _, rfl, iteF ?_⟩
    exact ⟨rfl, _, rfl⟩
  · obtain ⟨rfl, v1, rfl⟩ := z
    refine ⟨_, rfl, t, _, _, _, rfl, rfl, .inl (.inl ht), rfl, L2, qb, rfl, h2, hO1, _, rfl, iteT ?_⟩
    exact ⟨_, rfl, t, _, _, _, rfl, rfl, .inl (.inl ht), rfl, L3, qs, rfl, h3, hO2, q⟩
theorem sc__law_parted : FnScope ["line", "name", "other", "cell", "drawn", "order", "part", "rest"] ["line", "name", "other", "cell"] (defScope (top 35)) := ⟨rfl, rfl, rfl, by decide +kernel, rfl, by decide +kernel, by decide +kernel⟩
def sp__law_parted (K : PySem.W.Frag) : Sp := fun vs H Q _ => ∃ (p : Addr) (ps : List AO) (nm ot : Str) (c : Int), vs = [.ref p, .str nm, .str ot, .int c] ∧ SqL K H p (ps.map rf) ∧ Ords H ps ∧ ps.length ≤ 48 ∧ (∀ x ∈ ps, 1 ≤ x.2.l) ∧ ∀ (H' : Hp) (r : Addr), Same H H' → PtL nm ot H' r ps → Q (.ref r) H'
theorem ok__law_parted (d__law_parted : Dv K mg "_law_parted" (top 35) ["line", "name", "other", "cell"]) (B : Bl mg) (C : Co mg) (R : Er K mg)  : FnOk P w K mg base CX0 1 d__law_parted.f d__law_parted.fd ["line", "name", "other", "cell"] (sp__law_parted K) := by
  refine d__law_parted.F.ok sc__law_parted (fun vs H Q E h => ?_) (fun cdv A outer s H vs Q E hr h => ?_)
  · obtain ⟨_, _, _, _, _, rfl, _⟩ := h; rfl
  obtain ⟨p, ps, nm, ot, c, rfl, hS, hO, hl, pos, q⟩ := h
  refine ⟨_, (pss_cons (ps_set (i := 4) sc__law_parted.nd rfl (Or.inl rfl) (pe_lst pa_nil)) (pss_cons (ps_for PassesOwn.never rfl (pi_list (pv 0)) (pg_name (i := 5) sc__law_parted.nd rfl (Or.inl rfl)) (pss_one (ps_if (PW.pt (pw_and (pt_cmpR op_eq (pe_ix ix_tup (pv 5) pe_int (fun _ _ => rfl)) (pv 1) (nomark _)) (pw_and1 (pt_cmpR op_gt (pe_ix ix_tup (pv 5) pe_int (fun _ _ => rfl)) pe_int (nomark _))))) (pss_cons (ps_set (i := 6) sc__law_parted.nd rfl (Or.inl rfl) (pe_op op_add pe_int (pe_op op_mod (pv 3) (pe_op op_sub (pe_ix ix_tup (pv 5) pe_int (fun _ _ => rfl)) pe_int)))) (pss_cons (ps_set (i := 7) sc__law_parted.nd rfl (Or.inl rfl) (pe_op op_sub (pe_ix ix_tup (pv 5) pe_int (fun _ _ => rfl)) (pv 6))) (pss_cons (ps_expr (pe_bm PySem.F.plainAttrs_list PySem.F.slot_list_append PySem.F.type_list_append mt_append (pv 4) (pa_cons (pe_op op_catT (pe_slice sl_tup (pv 5) po_none (po_some pe_int)) (pe_tup (pa_cons (pv 6) (pa_cons (pv 6) (pa_cons pe_int pa_nil))))) pa_nil))) (pss_one (ps_expr (pe_bm PySem.F.plainAttrs_list PySem.F.slot_list_append PySem.F.type_list_append mt_append (pv 4) (pa_cons (pe_op op_catT (pe_op op_catT (pe_tup (pa_cons (pv 2) pa_nil)) (pe_slice sl_tup (pv 5) (po_some pe_int) (po_some pe_int))) (pe_tup (pa_cons (pv 7) (pa_cons (pv 7) (pa_cons pe_int pa_nil))))) pa_nil))))))) (pss_one (ps_expr (pe_bm PySem.F.plainAttrs_list PySem.F.slot_list_append PySem.F.type_list_append mt_append (pv 4) (pa_cons (pv 5) pa_nil))))))) (pss_one (ps_ret (pv 4))))), ?_⟩
  refine ⟨by walk_at "sz", fun d hd => ?_⟩
  have s0 := same_upd (u := .lst []) hd
  refine ⟨_, rfl, p, rfl, ⟨_, s0.seq hS⟩, ?_⟩
  refine for_list (K := K) (a := p) (xs := ps.map rf) (fun i σ H' => Same H H' ∧ ∃ (qs : List AO) (v5 v6 v7 : Option V), σ = [some (.ref p), some (.str nm), some (.str ot), some (.int c), some (.ref d), v5, v6, v7] ∧ H' d = some (.lst (qs.map rf)) ∧ Ords H' qs ∧ Pt nm ot ((ps.take i).map (·.2)) (qs.map (·.2))) ⟨s0, [], none, none, none, rfl, upd_same, (fun _ z => nomatch z), .nil⟩ (fun i σ H' _ z => z.1.seq hS) (fun i x σ H' hx z => ?_) (fun σ H' z => ?_)
  · obtain ⟨sm, qs, v5, v6, v7, rfl, kd, oq, pt⟩ := z
    obtain ⟨y, rfl, hy, hym⟩ := get_rf hx
    have hyo := sm _ _ (hO y hym)
    have hpos := pos y hym
    have lt := (List.getElem?_eq_some_iff.mp hy).1
    have tk : (ps.take (i + 1)).map (·.2) = (ps.take i).map (·.2) ++ [y.2] := by rw [List.take_add_one, hy, List.map_append]; rfl
    have lq : qs.length ≤ 96 := by
      have := pt_len2 pt
      rw [List.length_map, List.length_map, List.length_take] at this
      omega
    have keep : ∀ H5 : Hp, Same H' H5 → ∀ (z : AO), H5 z.1 = some (.tup (odV z.2)) → Same H (upd H5 d (.lst ((qs ++ [z]).map rf))) ∧ upd H5 d (.lst ((qs ++ [z]).map rf)) d = some (.lst ((qs ++ [z]).map rf)) ∧ Ords (upd H5 d (.lst ((qs ++ [z]).map rf))) (qs ++ [z]) := fun H5 s5 z hz =>
      ⟨same_updN (sm.trans s5) hd, upd_same, (ords_snoc (oq.same s5) hz).upd (s5 _ _ kd)⟩
    refine ⟨_, rfl, y.1, _, _, _, rfl, rfl, .inl (.inl hyo), rfl, _, rfl, rfl, _, rfl, ?_⟩
    refine ite2 (fun c1 => ?_) (fun c0 => ?_)
    · have en : y.2.n = nm := by simpa using c1
      refine ⟨_, rfl, y.1, _, _, _, rfl, rfl, .inl (.inl hyo), rfl, _, _, rfl, rfl, _, rfl, ?_⟩
      refine ite2 (fun c2 => ?_) (fun c3 => ?_)
      · have l1 : 1 < y.2.l := of_decide_eq_true c2
        have lm := Int.emod_lt_of_pos c (show 0 < y.2.l - 1 by omega)
        have ln := Int.emod_nonneg c (show y.2.l - 1 ≠ 0 by omega)
        refine ⟨_, rfl, _, rfl, y.1, _, _, _, rfl, rfl, .inl (.inl hyo), rfl, _, _, rfl, rfl, _, _, rfl, rfl, (by show (0 : Int) < _; omega), _, _, rfl, rfl, ?_⟩
        refine ⟨_, rfl, y.1, _, _, _, rfl, rfl, .inl (.inl hyo), rfl, _, rfl, _, _, rfl, rfl, ?_⟩
        refine ⟨_, rfl, .inl ⟨rfl, _, .inl (.inl kd)⟩, _, rfl, _, rfl, y.1, _, rfl, .inl (.inl hyo), (by show ¬ (HT.sIx 7 0 none = 0 ∧ HT.sIx 7 7 (some 4) = 7); decide), fun t1 ht1 => ?_⟩
        refine ⟨_, rfl, _, rfl, by walk_at "sz", fun t2 ht2 => ?_⟩
        refine ⟨t1, t2, _, _, rfl, rfl, .inl (.inl (at_upd upd_same ht2)), .inl (.inl upd_same), (by intro z; cases z), by walk_at "sz", (by intro z; cases z), fun _ t3 ht3 => ?_⟩
        have sZ := same_upd' (u := .tup (cutV (odV y.2) none (some 4) ++ [V.int (1 + c % (y.2.l - 1)), V.int (1 + c % (y.2.l - 1)), V.int 0])) (same_upd' (u := .tup [V.int (1 + c % (y.2.l - 1)), V.int (1 + c % (y.2.l - 1)), V.int 0]) (same_upd (u := .tup (cutV (odV y.2) none (some 4))) ht1) ht2) ht3
        have kZ : upd (upd (upd H' t1 (.tup (cutV (odV y.2) none (some 4)))) t2 (.tup [V.int (1 + c % (y.2.l - 1)), V.int (1 + c % (y.2.l - 1)), V.int 0])) t3 (.tup (cutV (odV y.2) none (some 4) ++ [V.int (1 + c % (y.2.l - 1)), V.int (1 + c % (y.2.l - 1)), V.int 0])) t3 = some (.tup (odV ⟨y.2.n, y.2.w, y.2.s, y.2.pr, 1 + c % (y.2.l - 1), 1 + c % (y.2.l - 1), 0⟩)) := upd_same
        refine ⟨d, _, _, rfl, rfl, sZ _ _ kd, by rw [List.length_map]; exact szLt (by omega), ?_⟩
        dsimp only at ht3 ⊢
        generalize upd (upd (upd H' t1 (.tup (cutV (odV y.2) none (some 4)))) t2 (.tup [V.int (1 + c % (y.2.l - 1)), V.int (1 + c % (y.2.l - 1)), V.int 0])) t3 (.tup (cutV (odV y.2) none (some 4) ++ [V.int (1 + c % (y.2.l - 1)), V.int (1 + c % (y.2.l - 1)), V.int 0])) = H6 at sZ kZ
        clear ht1 ht2 ht3
        generalize eq0 : 1 + c % (y.2.l - 1) = q0 at kZ
        rw [show qs.map rf ++ [V.ref t3] = (qs ++ [((t3, ⟨y.2.n, y.2.w, y.2.s, y.2.pr, q0, q0, 0⟩) : AO)]).map rf by rw [List.map_append]; rfl]
        obtain ⟨m1, m2, m3⟩ := keep H6 sZ (t3, ⟨y.2.n, y.2.w, y.2.s, y.2.pr, q0, q0, 0⟩) kZ
        have hy6 := upd_tup (u := .lst ((qs ++ [((t3, ⟨y.2.n, y.2.w, y.2.s, y.2.pr, q0, q0, 0⟩) : AO)]).map rf)) (sZ _ _ hyo) (sZ _ _ kd)
        generalize upd H6 d (.lst ((qs ++ [((t3, ⟨y.2.n, y.2.w, y.2.s, y.2.pr, q0, q0, 0⟩) : AO)]).map rf)) = H7 at m1 m2 m3 hy6
        refine ⟨_, rfl, .inl ⟨rfl, _, .inl (.inl m2)⟩, _, rfl, by walk_at "sz", fun t4 ht4 => ?_⟩
        refine ⟨_, rfl, _, rfl, _, rfl, y.1, _, rfl, .inl (.inl (at_upd hy6 ht4)), (by show ¬ (HT.sIx 7 0 (some 1) = 0 ∧ HT.sIx 7 7 (some 4) = 7); decide), fun t5 ht5 => ?_⟩
        refine ⟨t4, t5, _, _, rfl, rfl, .inl (.inl (at_upd upd_same ht5)), .inl (.inl upd_same), (by intro z; cases z), by walk_at "sz", (by intro z; cases z), fun _ t6 ht6 => ?_⟩
        refine ⟨_, rfl, _, rfl, by walk_at "sz", fun t7 ht7 => ?_⟩
        refine ⟨t6, t7, _, _, rfl, rfl, .inl (.inl (at_upd upd_same ht7)), .inl (.inl upd_same), (by intro z; cases z), by walk_at "sz", (by intro z; cases z), fun _ t8 ht8 => ?_⟩
        have sY := same_upd' (u := .tup (([V.str ot] ++ cutV (odV y.2) (some 1) (some 4)) ++ [V.int (y.2.l - q0), V.int (y.2.l - q0), V.int 0])) (same_upd' (u := .tup [V.int (y.2.l - q0), V.int (y.2.l - q0), V.int 0]) (same_upd' (u := .tup ([V.str ot] ++ cutV (odV y.2) (some 1) (some 4))) (same_upd' (u := .tup (cutV (odV y.2) (some 1) (some 4))) (same_upd (u := .tup [V.str ot]) ht4) ht5) ht6) ht7) ht8
        have kY : upd (upd (upd (upd (upd H7 t4 (.tup [V.str ot])) t5 (.tup (cutV (odV y.2) (some 1) (some 4)))) t6 (.tup ([V.str ot] ++ cutV (odV y.2) (some 1) (some 4)))) t7 (.tup [V.int (y.2.l - q0), V.int (y.2.l - q0), V.int 0])) t8 (.tup (([V.str ot] ++ cutV (odV y.2) (some 1) (some 4)) ++ [V.int (y.2.l - q0), V.int (y.2.l - q0), V.int 0])) t8 = some (.tup (odV ⟨ot, y.2.w, y.2.s, y.2.pr, y.2.l - q0, y.2.l - q0, 0⟩)) := upd_same
        refine ⟨d, _, _, rfl, rfl, sY _ _ m2, by rw [List.length_map, List.length_append]; exact szLt (by show _ + 1 < _; omega), ?_⟩
        dsimp only at ht8 ⊢
        generalize upd (upd (upd (upd (upd H7 t4 (.tup [V.str ot])) t5 (.tup (cutV (odV y.2) (some 1) (some 4)))) t6 (.tup ([V.str ot] ++ cutV (odV y.2) (some 1) (some 4)))) t7 (.tup [V.int (y.2.l - q0), V.int (y.2.l - q0), V.int 0])) t8 (.tup (([V.str ot] ++ cutV (odV y.2) (some 1) (some 4)) ++ [V.int (y.2.l - q0), V.int (y.2.l - q0), V.int 0])) = H8 at sY kY
        rw [show (qs ++ [((t3, ⟨y.2.n, y.2.w, y.2.s, y.2.pr, q0, q0, 0⟩) : AO)]).map rf ++ [V.ref t8] = ((qs ++ [((t3, ⟨y.2.n, y.2.w, y.2.s, y.2.pr, q0, q0, 0⟩) : AO)]) ++ [((t8, ⟨ot, y.2.w, y.2.s, y.2.pr, y.2.l - q0, y.2.l - q0, 0⟩) : AO)]).map rf from (List.map_append (f := rf) (l₁ := qs ++ [((t3, ⟨y.2.n, y.2.w, y.2.s, y.2.pr, q0, q0, 0⟩) : AO)]) (l₂ := [((t8, ⟨ot, y.2.w, y.2.s, y.2.pr, y.2.l - q0, y.2.l - q0, 0⟩) : AO)])).symm]
        refine ⟨same_updN (m1.trans sY) hd, (qs ++ [((t3, ⟨y.2.n, y.2.w, y.2.s, y.2.pr, q0, q0, 0⟩) : AO)]) ++ [((t8, ⟨ot, y.2.w, y.2.s, y.2.pr, y.2.l - q0, y.2.l - q0, 0⟩) : AO)], _, _, _, rfl, upd_same, (ords_snoc (m3.same sY) kY).upd (sY _ _ m2), ?_⟩
        rw [tk, List.append_assoc, List.map_append]
        exact pt.app (.part y.2 q0 .nil en (by omega) (by omega))
      · refine ⟨_, rfl, .inl ⟨rfl, _, .inl (.inl kd)⟩, _, rfl, d, _, _, rfl, rfl, kd, by rw [List.length_map]; exact szLt (by omega), ?_⟩
        rw [show qs.map rf ++ [rf y] = (qs ++ [y]).map rf by rw [List.map_append]; rfl]
        obtain ⟨k1, k2', k3⟩ := keep H' (Same.refl _) y hyo
        exact ⟨k1, qs ++ [y], _, _, _, rfl, k2', k3, by rw [tk, List.map_append]; exact pt.app (.keep _ .nil)⟩
    · refine iteF ⟨_, rfl, .inl ⟨rfl, _, .inl (.inl kd)⟩, _, rfl, d, _, _, rfl, rfl, kd, by rw [List.length_map]; exact szLt (by omega), ?_⟩
      rw [show qs.map rf ++ [rf y] = (qs ++ [y]).map rf by rw [List.map_append]; rfl]
      obtain ⟨k1, k2', k3⟩ := keep H' (Same.refl _) y hyo
      exact ⟨k1, qs ++ [y], _, _, _, rfl, k2', k3, by rw [tk, List.map_append]; exact pt.app (.keep _ .nil)⟩
  · obtain ⟨sm, qs, v5, v6, v7, rfl, kd, oq, pt⟩ := z
    rw [List.length_map, List.take_length] at pt
    exact ⟨_, rfl, q _ d sm ⟨qs, kd, oq, pt⟩⟩
theorem sc__law_pairs : FnScope ["trades", "name", "other", "pairs", "trade", "pair", "k"] ["trades", "name", "other"] (defScope (top 36)) := ⟨rfl, rfl, rfl, by decide +kernel, rfl, by decide +kernel, by decide +kernel⟩
def sp__law_pairs (K : PySem.W.Frag) : Sp := fun vs H Q _ => ∃ (L : Addr) (ts : List TR) (nm ot : Str), vs = [.ref L, .str nm, .str ot] ∧ H L = some (.lst (ts.map trR)) ∧ Trs H ts ∧ ts.length ≤ 201 ∧ ∀ (H' : Hp) (d : Addr) (kvs : List (List Key × V)), Same H H' → H' d = some (.dT kvs) → PD nm ot (ts.map (·.2)) kvs → Q (.ref d) H'
theorem ok__law_pairs (d__law_pairs : Dv K mg "_law_pairs" (top 36) ["trades", "name", "other"]) (B : Bl mg) (C : Co mg) (R : Er K mg)  : FnOk P w K mg base CX0 1 d__law_pairs.f d__law_pairs.fd ["trades", "name", "other"] (sp__law_pairs K) := by
  refine d__law_pairs.F.ok sc__law_pairs (fun vs H Q E h => ?_) (fun cdv A outer s H vs Q E hr h => ?_)
  · obtain ⟨_, _, _, _, rfl, _⟩ := h; rfl
  obtain ⟨L, ts, nm, ot, rfl, hL, trs, hl, q⟩ := h
  refine ⟨_, (pss_cons (ps_set (i := 3) sc__law_pairs.nd rfl (Or.inl rfl) pe_dnewT) (pss_cons (ps_for PassesOwn.never rfl (pi_list (pv 0)) (pg_name (i := 4) sc__law_pairs.nd rfl (Or.inl rfl)) (pss_cons (ps_set (i := 5) sc__law_pairs.nd rfl (Or.inl rfl) (pe_lst (pa_cons (pe_ix ix_tup (pv 4) pe_int (fun _ _ => rfl)) (pa_cons (pe_ix ix_tup (pv 4) pe_int (fun _ _ => rfl)) pa_nil)))) (pss_cons (ps_for PassesOwn.never rfl (pi_list (pe_lst (pa_cons pe_int (pa_cons pe_int pa_nil)))) (pg_name (i := 6) sc__law_pairs.nd rfl (Or.inl rfl)) (pss_one (ps_if (pt_cmpR op_eq (pe_ix ix_list (pv 5) (pv 6) (fun _ _ => rfl)) (pv 2) (nomark _)) (pss_one (ps_asg (pv 1) (pg_sub (pv 5) (pv 6) set_list))) pss_nil))) (pss_one (ps_dput (hu1 hr.units) (pv 3) (pe_tup (pa_cons (pe_ix ix_list (pv 5) pe_int (fun _ _ => rfl)) (pa_cons (pe_ix ix_list (pv 5) pe_int (fun _ _ => rfl)) pa_nil))) (pe_op op_add (pe_dget2 (hu1 hr.units) (pv 3) (pe_tup (pa_cons (pe_ix ix_list (pv 5) pe_int (fun _ _ => rfl)) (pa_cons (pe_ix ix_list (pv 5) pe_int (fun _ _ => rfl)) pa_nil))) pe_int ⟨rfl, rfl, rfl, rfl⟩) (pe_ix ix_tup (pv 4) pe_int (fun _ _ => rfl))) rfl))))) (pss_one (ps_ret (pv 3))))), ?_⟩
  refine fun d hd => ?_
  have s0 := same_upd (u := .dT []) hd
  refine ⟨_, rfl, L, rfl, ⟨_, .inl (.inl (s0 _ _ hL))⟩, ?_⟩
  refine for_list (K := K) (a := L) (xs := ts.map trR) (fun i σ H' => Same H H' ∧ ∃ (kvs : List (List Key × V)) (v4 v5 v6 : Option V), σ = [some (.ref L), some (.str nm), some (.str ot), some (.ref d), v4, v5, v6] ∧ H' d = some (.dT kvs) ∧ PD nm ot ((ts.take i).map (·.2)) kvs ∧ kvs.length ≤ i) ⟨s0, [], none, none, none, rfl, upd_same, PD.nil nm ot, Nat.le_refl _⟩ (fun i σ H' _ z => .inl (.inl (z.1 _ _ hL))) (fun i x σ H' hx z => ?_) (fun σ H' z => ?_)
  · obtain ⟨sm, kvs, v4, v5, v6, rfl, kd, pd, lk⟩ := z
    obtain ⟨y, rfl, hy, hym⟩ := get_tr hx
    have hyo := sm _ _ (trs y hym)
    refine ⟨_, rfl, y.1, _, _, _, rfl, rfl, .inl (.inl hyo), rfl, _, rfl, y.1, _, _, _, rfl, rfl, .inl (.inl hyo), rfl, by walk_at "sz", fun l hl0 => ?_⟩
    refine ⟨by walk_at "sz", fun kl hkl => ⟨kl, rfl, ⟨_, .inl (.inl upd_same)⟩, ?_⟩⟩
    have sA := same_upd (u := .lst [V.str y.2.1, V.str y.2.2.1]) hl0
    have nkl : l ≠ kl := ne_of_none (H := upd H' l (.lst [V.str y.2.1, V.str y.2.2.1])) upd_same hkl
    have sB := same_upd' (u := .lst [V.int 0, V.int 1]) sA hkl
    refine for_list (K := K) (a := kl) (xs := [V.int 0, V.int 1]) (fun j σ H'' => Same H' H'' ∧ (∃ v6, σ = [some (.ref L), some (.str nm), some (.str ot), some (.ref d), some (trR y), some (.ref l), v6]) ∧ H'' kl = some (.lst [V.int 0, V.int 1]) ∧ H'' l = some (.lst [V.str (if j = 0 then y.2.1 else rnm nm ot y.2.1), V.str (if j ≤ 1 then y.2.2.1 else rnm nm ot y.2.2.1)])) ⟨sB, ⟨_, rfl⟩, upd_same, at_upd upd_same hkl⟩ (fun j σ H'' _ z => .inl (.inl z.2.2.1)) (fun j x σ H'' hx z => ?_) (fun σ H'' z => ?_)
    · obtain ⟨sm2, ⟨v6, rfl⟩, kkl, kl2⟩ := z
      have hj : j < 2 := (List.getElem?_eq_some_iff.mp hx).1
      match j, hj with
      | 0, _ =>
        cases (show V.int 0 = x from Option.some.inj hx)
        have kl2 : H'' l = some (.lst [V.str y.2.1, V.str y.2.2.1]) := kl2
        refine ⟨_, rfl, _, rfl, l, _, _, _, rfl, rfl, .inl (.inl kl2), rfl, _, rfl, rfl, _, rfl, ?_⟩
        refine ite2 (fun c => ?_) (fun c => ?_)
        · have e : y.2.1 = ot := by simpa using c
          refine ⟨_, rfl, _, rfl, _, rfl, l, _, 0, 0, rfl, rfl, kl2, rfl, ?_⟩
          have : rnm nm ot y.2.1 = nm := by unfold rnm; rw [if_pos e]
          rw [this]
          exact ⟨same_updN sm2 hl0, ⟨_, rfl⟩, upd_oth kkl nkl.symm, upd_same⟩
        · have e : ¬ y.2.1 = ot := by simpa using c
          refine ⟨sm2, ⟨_, rfl⟩, kkl, ?_⟩
          show H'' l = some (.lst [V.str (rnm nm ot y.2.1), V.str y.2.2.1])
          unfold rnm
          rw [if_neg e]
          exact kl2
      | 1, _ =>
        cases (show V.int 1 = x from Option.some.inj hx)
        have kl2 : H'' l = some (.lst [V.str (rnm nm ot y.2.1), V.str y.2.2.1]) := kl2
        refine ⟨_, rfl, _, rfl, l, _, _, _, rfl, rfl, .inl (.inl kl2), rfl, _, rfl, rfl, _, rfl, ?_⟩
        refine ite2 (fun c => ?_) (fun c => ?_)
        · have e : y.2.2.1 = ot := by simpa using c
          refine ⟨_, rfl, _, rfl, _, rfl, l, _, 1, 1, rfl, rfl, kl2, rfl, ?_⟩
          have : rnm nm ot y.2.2.1 = nm := by unfold rnm; rw [if_pos e]
          rw [this]
          exact ⟨same_updN sm2 hl0, ⟨_, rfl⟩, upd_oth kkl nkl.symm, upd_same⟩
        · have e : ¬ y.2.2.1 = ot := by simpa using c
          refine ⟨sm2, ⟨_, rfl⟩, kkl, ?_⟩
          show H'' l = some (.lst [V.str (rnm nm ot y.2.1), V.str (rnm nm ot y.2.2.1)])
          rw [show rnm nm ot y.2.2.1 = y.2.2.1 by unfold rnm; rw [if_neg e]]
          exact kl2
    · obtain ⟨sm2, ⟨v6, rfl⟩, kkl, kl2⟩ := z
      have kl2 : H'' l = some (.lst [V.str (rnm nm ot y.2.1), V.str (rnm nm ot y.2.2.1)]) := kl2
      have kd2 := sm2 _ _ kd
      have hy2 := sm2 _ _ hyo
      refine ⟨_, rfl, d, rfl, .inr ⟨_, .inl kd2⟩, _, rfl, l, _, _, _, rfl, rfl, .inl (.inl kl2), rfl, _, rfl, l, _, _, _, rfl, rfl, .inl (.inl kl2), rfl, by walk_at "sz", fun t1 ht1 => ?_⟩
      have sC := same_upd (u := .tup [V.str (rnm nm ot y.2.1), V.str (rnm nm ot y.2.2.1)]) ht1
      refine ⟨_, DGet.t (k := k2 (rnm nm ot y.2.1) (rnm nm ot y.2.2.1)) (sC _ _ kd2) upd_same, ?_⟩
      rw [pd.old]
      refine ⟨_, rfl, y.1, _, _, _, rfl, rfl, .inl (.inl (sC _ _ hy2)), rfl, _, _, rfl, rfl, _, rfl, _, rfl, l, _, _, _, rfl, rfl, .inl (.inl (sC _ _ kl2)), rfl, _, rfl, l, _, _, _, rfl, rfl, .inl (.inl (sC _ _ kl2)), rfl, by walk_at "sz", fun t2 ht2 => ?_⟩
      have sD := same_upd' (u := .tup [V.str (rnm nm ot y.2.1), V.str (rnm nm ot y.2.2.1)]) sC ht2
      have hi := (List.getElem?_eq_some_iff.mp hy).1
      refine ⟨d, _, rfl, DPut.t (k := k2 (rnm nm ot y.2.1) (rnm nm ot y.2.2.1)) (sD _ _ kd2) upd_same (szLt (by omega)), ?_⟩
      refine ⟨same_updN (sm.trans (sm2.trans sD)) hd, _, _, _, _, rfl, upd_same, ?_, ?_⟩
      · rw [List.take_add_one, hy, List.map_append]
        exact pd.snoc y.2
      · have := put_len kvs (k2 (rnm nm ot y.2.1) (rnm nm ot y.2.2.1)) (.int (pairS nm ot (rnm nm ot y.2.1) (rnm nm ot y.2.2.1) ((ts.take i).map (·.2)) + y.2.2.2))
        exact Nat.le_trans this (by omega)
  · obtain ⟨sm, kvs, v4, v5, v6, rfl, kd, pd, lk⟩ := z
    rw [List.length_map, List.take_length] at pd
    exact ⟨_, rfl, q _ d kvs sm kd pd⟩
theorem sc__law_rest : FnScope ["line", "names"] ["line", "names"] (defScope (top 37)) := ⟨rfl, rfl, rfl, by decide +kernel, rfl, by decide +kernel, by decide +kernel⟩
def sp__law_rest (K : PySem.W.Frag) : Sp := fun vs H Q _ => ∃ (p : Addr) (ps : List AO) (n : Addr) (nm ot : Str), vs = [.ref p, .ref n] ∧ SqL K H p (ps.map rf) ∧ Ords H ps ∧ H n = some (.lst [.str nm, .str ot]) ∧ ps.length ≤ 200 ∧ ∀ (H' : Hp) (l : Addr), Same H H' → H l = none → H' l = some (.lst ((ps.filter fun x => oth nm ot x.2).map rf)) → Q (.ref l) H'
theorem ok__law_rest (d__law_rest : Dv K mg "_law_rest" (top 37) ["line", "names"]) (B : Bl mg) (C : Co mg) (R : Er K mg)  : FnOk P w K mg base CX0 1 d__law_rest.f d__law_rest.fd ["line", "names"] (sp__law_rest K) := by
  refine d__law_rest.F.ok sc__law_rest (fun vs H Q E h => ?_) (fun cdv A outer s H vs Q E hr h => ?_)
  · obtain ⟨_, _, _, _, _, rfl, _⟩ := h; rfl
  obtain ⟨p, ps, n, nm, ot, rfl, hS, hO, hn, hl, q⟩ := h
  refine ⟨_, (pss_one (ps_ret (pe_lc (N := ["line", "names"]) (sc := defScope (top 37)) ⟨by decide +kernel, rfl, rfl, by decide +kernel, by decide +kernel, by decide +kernel, by decide +kernel⟩ rfl rfl rfl (pi_list (pv 0)) (fun _ _ _ _ _ => (pif_one (pt_cmpR (op_notIn_seqK (K := K) rfl) (pe_ix (ix_tupK (K := K) rfl) (pv 0) pe_int (fun _ _ => rfl)) (pv 2) rfl))) (fun _ _ _ _ _ => (pv 0))))), ?_⟩
  refine ⟨_, rfl, p, rfl, ⟨_, hS⟩, ?_⟩
  refine comp_map (fun x => oth nm ot x.2) rf hS (szOk (by omega)) (fun x H' hx sm R R0 h1 h0 => ?_) (fun H' sm l hl' => ?_)
  · have hx' := sm _ _ (hO x hx)
    refine ⟨rfl, _, rfl, x.1, _, _, _, rfl, rfl, .inl (.inl hx'), rfl, _, rfl, n, _, rfl, .inl (.inl (.inl (sm _ _ hn))), rfl, rfl, _, rfl, ?_⟩
    rw [show (if true = true then !inV (V.str x.2.n) [V.str nm, V.str ot] else inV (V.str x.2.n) [V.str nm, V.str ot]) = oth nm ot x.2 from in_two nm ot x.2]
    refine ite2 (fun c => ?_) (fun c => ?_)
    · exact ⟨_, rfl, h1 c _ (Same.refl _)⟩
    · exact h0 (by simpa using c) _ (Same.refl _)
  · exact q _ l (same_upd' sm hl') (sm.free hl') upd_same
theorem sc__law_left : FnScope ["line", "names"] ["line", "names"] (defScope (top 38)) := ⟨rfl, rfl, rfl, by decide +kernel, rfl, by decide +kernel, by decide +kernel⟩
def sp__law_left (K : PySem.W.Frag) : Sp := fun vs H Q _ => ∃ (p : Addr) (ps : List AO) (n : Addr) (nm ot : Str), vs = [.ref p, .ref n] ∧ SqL K H p (ps.map rf) ∧ Ords H ps ∧ H n = some (.lst [.str nm, .str ot]) ∧ ps.length ≤ 200 ∧ ∀ (H' : Hp), Same H H' → Q (.int (lft nm ot (ps.map (·.2)))) H'
theorem ok__law_left (d__law_left : Dv K mg "_law_left" (top 38) ["line", "names"]) (B : Bl mg) (C : Co mg) (R : Er K mg)  : FnOk P w K mg base CX0 1 d__law_left.f d__law_left.fd ["line", "names"] (sp__law_left K) := by
  refine d__law_left.F.ok sc__law_left (fun vs H Q E h => ?_) (fun cdv A outer s H vs Q E hr h => ?_)
  · obtain ⟨_, _, _, _, _, rfl, _⟩ := h; rfl
  obtain ⟨p, ps, n, nm, ot, rfl, hS, hO, hn, hl, q⟩ := h
  refine ⟨_, (pss_one (ps_ret (pe_callB (call_sum rfl) rfl B.b_sum PyProof.Rows.boot_sum (pa_cons (pe_lc (N := ["line", "names"]) (sc := defScope (top 38)) ⟨by decide +kernel, rfl, rfl, by decide +kernel, by decide +kernel, by decide +kernel, by decide +kernel⟩ rfl rfl rfl (pi_list (pv 0)) (fun _ _ _ _ _ => (pif_one (pt_cmpR (op_in_seqK (K := K) rfl) (pe_ix (ix_tupK (K := K) rfl) (pv 0) pe_int (fun _ _ => rfl)) (pv 2) rfl))) (fun _ _ _ _ _ => (pe_ix (ix_tupK (K := K) rfl) (pv 0) pe_int (fun _ _ => rfl)))) pa_nil)))), ?_⟩
  refine ⟨_, rfl, p, rfl, ⟨_, hS⟩, ?_⟩
  refine comp_map (fun x => inn nm ot x.2) (fun x => .int x.2.l) hS (szOk (by omega)) (fun x H' hx sm R R0 h1 h0 => ?_) (fun H' sm l hl' => ?_)
  · have hx' := sm _ _ (hO x hx)
    refine ⟨rfl, _, rfl, x.1, _, _, _, rfl, rfl, .inl (.inl hx'), rfl, _, rfl, n, _, rfl, .inl (.inl (.inl (sm _ _ hn))), rfl, rfl, _, rfl, ?_⟩
    rw [show (if false = true then !inV (V.str x.2.n) [V.str nm, V.str ot] else inV (V.str x.2.n) [V.str nm, V.str ot]) = inn nm ot x.2 from two_in nm ot x.2]
    refine ite2 (fun c => ?_) (fun c => ?_)
    · exact ⟨_, rfl, x.1, _, _, _, rfl, rfl, .inl (.inl hx'), rfl, h1 c _ (Same.refl _)⟩
    · exact h0 (by simpa using c) _ (Same.refl _)
  · refine ⟨l, (ps.filter fun x => inn nm ot x.2).map fun p => p.2.l, rfl, .inl (.inl (by rw [upd_same, List.map_map]; rfl)), ?_⟩
    rw [lft_is]
    exact q _ (same_upd' sm hl')
theorem sc_law : FnScope ["script", "buys", "sells", "plan", "tag", "near", "names", "one", "parted", "two", "k"] ["script"] (defScope (top 39)) := ⟨rfl, rfl, rfl, by decide +kernel, rfl, by decide +kernel, by decide +kernel⟩
def sp_law (K : PySem.W.Frag) (T : Addr) : Sp := fun vs H Q _ => ∃ (a : Addr) (ns : List Int), vs = [.ref a] ∧ SqL K H a (ns.map V.int) ∧ ns.length ≤ 63 ∧ H T = some (.tbl #[]) ∧ ∀ H', Q (.bl true) H'
theorem ok_law (d_law : Dv K mg "law" (top 39) ["script"]) (B : Bl mg) (C : Co mg) (R : Er K mg) (d__law_lines : Dv K mg "_law_lines" (top 32) ["script"]) (G__law_lines : FnOk P w K mg base CX0 4 d__law_lines.f d__law_lines.fd ["script"] (sp__law_lines K)) (d__law_cell_at : Dv K mg "_law_cell_at" (top 24) ["script", "k"]) (G__law_cell_at : FnOk P w K mg base CX0 1 d__law_cell_at.f d__law_cell_at.fd ["script", "k"] (sp__law_cell_at K)) (d__law_asked : Dv K mg "_law_asked" (top 29) ["cell", "orders", "plan"]) (G__law_asked : FnOk P w K mg base CX0 2 d__law_asked.f d__law_asked.fd ["cell", "orders", "plan"] (sp__law_asked K)) (d__law_name : Dv K mg "_law_name" (top 27) ["cell", "k", "at"]) (G__law_name : FnOk P w K mg base CX0 2 d__law_name.f d__law_name.fd ["cell", "k", "at"] (sp__law_name K)) (d_called : Dv K mg "called" (top 20) ["buys", "sells", "near"]) (G_called : FnOk P w K mg base CX0 10 d_called.f d_called.fd ["buys", "sells", "near"] (sp_called K T)) (d__law_parted : Dv K mg "_law_parted" (top 35) ["line", "name", "other", "cell"]) (G__law_parted : FnOk P w K mg base CX0 1 d__law_parted.f d__law_parted.fd ["line", "name", "other", "cell"] (sp__law_parted K)) (d__law_told : Dv K mg "_law_told" (top 34) ["found"]) (G__law_told : FnOk P w K mg base CX0 3 d__law_told.f d__law_told.fd ["found"] (sp__law_told K)) (d__law_pairs : Dv K mg "_law_pairs" (top 36) ["trades", "name", "other"]) (G__law_pairs : FnOk P w K mg base CX0 1 d__law_pairs.f d__law_pairs.fd ["trades", "name", "other"] (sp__law_pairs K)) (d__law_rest : Dv K mg "_law_rest" (top 37) ["line", "names"]) (G__law_rest : FnOk P w K mg base CX0 1 d__law_rest.f d__law_rest.fd ["line", "names"] (sp__law_rest K)) (d__law_left : Dv K mg "_law_left" (top 38) ["line", "names"]) (G__law_left : FnOk P w K mg base CX0 1 d__law_left.f d__law_left.fd ["line", "names"] (sp__law_left K)) : FnOk P w K mg base CX0 11 d_law.f d_law.fd ["script"] (sp_law K T) := by
  refine d_law.F.ok sc_law (fun vs H Q E h => ?_) (fun cdv A outer s H vs Q E hr h => ?_)
  · obtain ⟨_, _, rfl, _⟩ := h; rfl
  obtain ⟨a, ns, rfl, hS, hn, hT0, q⟩ := h
  refine ⟨_, (pss_cons (ps_asg (pe_call G__law_lines (hr.mono (by decide)) rfl d__law_lines.m d__law_lines.F.kp d__law_lines.b .nil pass0 (pa_cons (pv 0) pa_nil)) (pg_lst rfl (pgs_cons (pg_name (i := 1) sc_law.nd rfl (Or.inl rfl)) (pgs_cons (pg_name (i := 2) sc_law.nd rfl (Or.inl rfl)) pgs_nil)))) (pss_cons (ps_set (i := 3) sc_law.nd rfl (Or.inl rfl) (pe_call G__law_cell_at (hr.mono (by decide)) rfl d__law_cell_at.m d__law_cell_at.F.kp d__law_cell_at.b .nil pass0 (pa_cons (pv 0) (pa_cons pe_int pa_nil)))) (pss_cons (ps_set (i := 4) sc_law.nd rfl (Or.inr rfl) (pe_call G__law_cell_at (hr.mono (by decide)) rfl d__law_cell_at.m d__law_cell_at.F.kp d__law_cell_at.b .nil pass0 (pa_cons (pv 0) (pa_cons pe_int pa_nil)))) (pss_cons (ps_set (i := 5) sc_law.nd rfl (Or.inl rfl) (pe_call G__law_asked (hr.mono (by decide)) rfl d__law_asked.m d__law_asked.F.kp d__law_asked.b .nil pass0 (pa_cons (pv 4) (pa_cons (pe_op op_cat (pv 1) (pv 2)) (pa_cons (pv 3) pa_nil))))) (pss_cons (ps_set (i := 6) sc_law.nd rfl (Or.inr rfl) (pe_lst (pa_cons pe_str (pa_cons (pe_call G__law_name (hr.mono (by decide)) rfl d__law_name.m d__law_name.F.kp d__law_name.b .nil pass0 (pa_cons (pe_ix ix_list (pe_lst (pa_cons (pv 4) (pa_cons (pv 3) pa_nil))) (pe_op op_mod (pv 4) pe_int) (fun _ _ => rfl)) (pa_cons pe_int (pa_cons (pe_op op_mod (pe_op op_fdiv (pv 4) pe_int) pe_int) pa_nil)))) pa_nil)))) (pss_cut (ps_if (pt_cmpR (op_neD hr.units) (pe_op op_cat (pv 1) (pv 2)) (pe_lst pa_nil) (nomark _)) (pss_one (ps_asg (pe_ix ix_tup (pe_ix ix_list (pe_op op_cat (pv 1) (pv 2)) (pe_op op_mod (pe_op op_fdiv (pe_call G__law_cell_at (hr.mono (by decide)) rfl d__law_cell_at.m d__law_cell_at.F.kp d__law_cell_at.b .nil pass0 (pa_cons (pv 0) (pa_cons pe_int pa_nil))) pe_int) (pe_callB call_len_seq rfl B.b_len PySem.boot_len (pa_cons (pe_op op_cat (pv 1) (pv 2)) pa_nil))) (fun _ _ => rfl)) pe_int (fun _ _ => rfl)) (pg_sub (pv 6) pe_int set_list))) pss_nil) (pss_cons (ps_set (i := 7) sc_law.nd rfl (Or.inl rfl) (pe_call G_called (hr.mono (by decide)) rfl d_called.m d_called.F.kp d_called.b .nil pass0 (pa_cons (pe_callTy call_list_of rfl B.b_list PyProof.Rows.boot_list (pa_cons (pv 1) pa_nil)) (pa_cons (pe_callTy call_list_of rfl B.b_list PyProof.Rows.boot_list (pa_cons (pv 2) pa_nil)) (pa_cons (pv 5) pa_nil))))) (pss_cons (ps_lc (i := 8) sc_law.nd rfl rfl (N := ["script", "buys", "sells", "plan", "tag", "near", "names", "one", "parted", "two", "k"]) (sc := defScope (top 39)) ⟨by decide +kernel, rfl, rfl, by decide +kernel, by decide +kernel, by decide +kernel, by decide +kernel⟩ rfl rfl rfl (pi_list (pe_lst (pa_cons (pv 1) (pa_cons (pv 2) pa_nil)))) (fun _ _ _ _ _ => pif_nil) (fun _ _ _ _ _ => (pe_call G__law_parted (hr.mono (by decide)) rfl d__law_parted.m d__law_parted.F.kp d__law_parted.b .nil pass0 (pa_cons (pv 0) (pa_cons (pe_ix (ix_listK (K := K) rfl) (pv 7) pe_int (fun _ _ => rfl)) (pa_cons (pe_ix (ix_listK (K := K) rfl) (pv 7) pe_int (fun _ _ => rfl)) (pa_cons (pe_op op_fdiv (pv 5) pe_int) pa_nil))))))) (pss_cons (ps_set (i := 9) sc_law.nd rfl (Or.inl rfl) (pe_call G_called (hr.mono (by decide)) rfl d_called.m d_called.F.kp d_called.b .nil pass0 (pa_cons (pe_ix ix_list (pv 8) pe_int (fun _ _ => rfl)) (pa_cons (pe_ix ix_list (pv 8) pe_int (fun _ _ => rfl)) (pa_cons (pv 5) pa_nil))))) (pss_cons (ps_if (PW.pt (pw_or (pt_not (pt_val (pe_call G__law_told (hr.mono (by decide)) rfl d__law_told.m d__law_told.F.kp d__law_told.b .nil pass0 (pa_cons (pv 7) pa_nil)) (fun _ => rfl))) (pw_or (pt_not (pt_val (pe_call G__law_told (hr.mono (by decide)) rfl d__law_told.m d__law_told.F.kp d__law_told.b .nil pass0 (pa_cons (pv 9) pa_nil)) (fun _ => rfl))) (pw_or1 (pt_cmpR op_ne (pe_ix ix_tup (pv 7) pe_int (fun _ _ => rfl)) (pe_ix ix_tup (pv 9) pe_int (fun _ _ => rfl)) (nomark _)))))) (pss_one (ps_ret pe_bl)) pss_nil) (pss_cons (ps_if (pt_cmpR (op_neDT hr.units) (pe_call G__law_pairs (hr.mono (by decide)) rfl d__law_pairs.m d__law_pairs.F.kp d__law_pairs.b .nil pass0 (pa_cons (pe_ix ix_tup (pv 7) pe_int (fun _ _ => rfl)) (pa_cons (pe_ix ix_list (pv 6) pe_int (fun _ _ => rfl)) (pa_cons (pe_ix ix_list (pv 6) pe_int (fun _ _ => rfl)) pa_nil)))) (pe_call G__law_pairs (hr.mono (by decide)) rfl d__law_pairs.m d__law_pairs.F.kp d__law_pairs.b .nil pass0 (pa_cons (pe_ix ix_tup (pv 9) pe_int (fun _ _ => rfl)) (pa_cons (pe_ix ix_list (pv 6) pe_int (fun _ _ => rfl)) (pa_cons (pe_ix ix_list (pv 6) pe_int (fun _ _ => rfl)) pa_nil)))) (nomark _)) (pss_one (ps_ret pe_bl)) pss_nil) (pss_cons (ps_for PassesOwn.never rfl (pi_list (pe_lst (pa_cons pe_int (pa_cons pe_int pa_nil)))) (pg_name (i := 10) sc_law.nd rfl (Or.inl rfl)) (pss_cons (ps_if (pt_cmpR (op_neD hr.units) (pe_call G__law_rest (hr.mono (by decide)) rfl d__law_rest.m d__law_rest.F.kp d__law_rest.b .nil pass0 (pa_cons (pe_ix ix_tup (pv 7) (pv 10) (fun _ _ => rfl)) (pa_cons (pv 6) pa_nil))) (pe_call G__law_rest (hr.mono (by decide)) rfl d__law_rest.m d__law_rest.F.kp d__law_rest.b .nil pass0 (pa_cons (pe_ix ix_tup (pv 9) (pv 10) (fun _ _ => rfl)) (pa_cons (pv 6) pa_nil))) (nomark _)) (pss_one (ps_ret pe_bl)) pss_nil) (pss_one (ps_if (pt_cmpR op_ne (pe_call G__law_left (hr.mono (by decide)) rfl d__law_left.m d__law_left.F.kp d__law_left.b .nil pass0 (pa_cons (pe_ix ix_tup (pv 7) (pv 10) (fun _ _ => rfl)) (pa_cons (pv 6) pa_nil))) (pe_call G__law_left (hr.mono (by decide)) rfl d__law_left.m d__law_left.F.kp d__law_left.b .nil pass0 (pa_cons (pe_ix ix_tup (pv 9) (pv 10) (fun _ _ => rfl)) (pa_cons (pv 6) pa_nil))) (nomark _)) (pss_one (ps_ret pe_bl)) pss_nil)))) (pss_one (ps_ret pe_bl)))))))))))))), ?_⟩
  have hT : TabK QN LP T H := ⟨_, hT0, .inl rfl⟩
  refine ⟨_, rfl, a, ns, rfl, hS, hn, fun H1 L b s0 pb ps s1 hL hb hs nbs hO1 hO2 d1 d2 u1 u2 hc => ?_⟩
  refine ⟨L, _, rfl, .inl (.inl hL), rfl, _, _, rfl, _, _, rfl, rfl, ?_⟩
  have hS1 := s1.seq hS
  refine ⟨_, rfl, a, ns, _, rfl, hS1, by decide, ?_⟩
  refine ⟨_, rfl, a, ns, _, rfl, hS1, by decide, ?_⟩
  refine ⟨_, rfl, _, rfl, _, rfl, b, s0, _, _, rfl, rfl, hb, hs, by rw [List.length_map, List.length_map]; exact szOk (by omega), fun p1 hp1 => ?_⟩
  have sA := same_upd (u := .lst (pb.map rf ++ ps.map rf)) hp1
  refine ⟨_, rfl, _, p1, pb ++ ps, _, rfl, .inl (.inl (by rw [upd_same, List.map_append])), (hO1.app hO2).same sA, by rw [List.length_append]; omega, fun near H2 s2 => ?_⟩
  have sB := sA.trans s2
  have hb := sB _ _ hb
  have hs := sB _ _ hs
  have hO1 := hO1.same sB
  have hO2 := hO2.same sB
  have hS2 := sB.seq hS1
  have hT2 := hT.same (s1.trans sB)
  obtain ⟨x0, hx⟩ : ∃ x0, atI [V.int (cell ns 1), V.int (cell ns 0)] (cell ns 1 % 2) = some (V.int x0) := by
    have : cell ns 1 % 2 = 0 ∨ cell ns 1 % 2 = 1 := by omega
    rcases this with e | e
    · exact ⟨cell ns 1, by rw [e]; rfl⟩
    · exact ⟨cell ns 0, by rw [e]; rfl⟩
  refine ⟨_, rfl, _, rfl, by walk_at "sz", fun q1 hq1 => ?_⟩
  refine ⟨_, rfl, _, _, rfl, rfl, (by walk_at "side"), q1, _, _, _, rfl, rfl, .inl (.inl upd_same), hx, _, rfl, _, _, rfl, rfl, ⟨by decide, by decide⟩, _, _, rfl, rfl, (by walk_at "side"), _, _, _, rfl, by decide, by decide, fun ot hot => ⟨by walk_at "sz", fun n hn0 => ?_⟩⟩
  have sN := same_upd (u := .lst [V.int (cell ns 1), V.int (cell ns 0)]) hq1
  have fn : H2 n = none := sN.free hn0
  have sM := same_upd' (u := .lst [V.str "", V.str ot]) sN hn0
  have kn : upd (upd H2 q1 (.lst [V.int (cell ns 1), V.int (cell ns 0)])) n (.lst [V.str "", V.str ot]) n = some (.lst [V.str "", V.str ot]) := upd_same
  generalize upd (upd H2 q1 (.lst [V.int (cell ns 1), V.int (cell ns 0)])) n (.lst [V.str "", V.str ot]) = H3 at sM kn
  refine ⟨fun σ' H' => ∃ nm : Str, σ' = [some (.ref a), some (.ref b), some (.ref s0), some (.int (cell ns 0)), some (.int (cell ns 1)), some (.int near), some (.ref n), none, none, none, none] ∧ Same H2 H' ∧ H' n = some (.lst [.str nm, .str ot]), ?_, ?_⟩
  · have hbM := sM _ _ hb
    have hsM := sM _ _ hs
    refine ⟨_, rfl, _, rfl, b, s0, _, _, rfl, rfl, hbM, hsM, by rw [List.length_map, List.length_map]; exact szOk (by omega), fun p2 hp2 => ⟨by walk_at "sz", fun l0 hl0 => ?_⟩⟩
    have sP := same_upd (u := .lst (pb.map rf ++ ps.map rf)) hp2
    have sQ := same_upd' (u := .lst []) sP hl0
    have sR := sM.trans sQ
    by_cases em : pb ++ ps = []
    · obtain ⟨rfl, rfl⟩ := List.append_eq_nil_iff.mp em
      refine ⟨p2, l0, _, _, rfl, rfl, .inl (.inl (at_upd upd_same hl0)), .inl (.inl upd_same), .inr ⟨rfl, fun _ => true, fun j hj => absurd hj (Nat.not_lt_zero _), _, rfl, iteF ?_⟩⟩
      exact ⟨"", rfl, sR, sQ _ _ kn⟩
    · have hz : 0 < (pb ++ ps).length := List.length_pos_iff.mpr em
      refine ⟨p2, l0, _, _, rfl, rfl, .inl (.inl (at_upd upd_same hl0)), .inl (.inl upd_same), .inl ⟨by rw [← List.map_append, List.length_map]; show ¬ _ = 0; omega, _, rfl, iteT ?_⟩⟩
      refine ⟨_, rfl, _, rfl, b, s0, _, _, rfl, rfl, sR _ _ hb, sR _ _ hs, by rw [List.length_map, List.length_map]; exact szOk (by omega), fun p3 hp3 => ?_⟩
      have sS := same_upd' (u := .lst (pb.map rf ++ ps.map rf)) sR hp3
      refine ⟨_, rfl, a, ns, _, rfl, sS.seq hS2, by decide, _, _, rfl, rfl, ⟨by decide, by decide⟩, _, rfl, _, rfl, b, s0, _, _, rfl, rfl, sS _ _ hb, sS _ _ hs, by rw [List.length_map, List.length_map]; exact szOk (by omega), fun p4 hp4 => ?_⟩
      have sU := same_upd' (u := .lst (pb.map rf ++ ps.map rf)) sS hp4
      have hlen : (((pb.map rf ++ ps.map rf).length : Nat) : Int) = (pb ++ ps).length := by rw [← List.map_append, List.length_map]
      obtain ⟨x, hxm, ax⟩ := at_ords (ps := pb ++ ps) (i := cell ns 2 / 5 % ((pb.map rf ++ ps.map rf).length : Int)) (by rw [hlen]; exact Int.emod_nonneg _ (by omega)) (by rw [hlen]; exact Int.emod_lt_of_pos _ (by omega))
      rw [List.map_append] at ax
      have hxo := (hO1.app hO2).same sU x hxm
      refine ⟨p4, _, rfl, .inl (.inl (.inl upd_same)), _, _, rfl, rfl, (by show (0 : Int) < _; rw [hlen]; omega), p3, _, _, _, rfl, rfl, .inl (.inl (at_upd upd_same hp4)), ax, x.1, _, _, _, rfl, rfl, .inl (.inl hxo), rfl, _, rfl, n, _, 0, 0, rfl, rfl, at_upd (at_upd (sQ _ _ kn) hp3) hp4, rfl, ?_⟩
      exact ⟨x.2.n, rfl, same_updN sU fn, upd_same⟩
  rintro _ H4 ⟨nm, rfl, s4, hnm⟩
  have hb := s4 _ _ hb
  have hs := s4 _ _ hs
  have hO1 := hO1.same s4
  have hO2 := hO2.same s4
  have hT4 := hT2.same s4
  refine ⟨_, rfl, b, _, rfl, .inl (.inl (.inl hb)), fun c1 hc1 => ⟨_, rfl, s0, _, rfl, .inl (.inl (.inl (at_upd hs hc1))), fun c2 hc2 => ?_⟩⟩
  have sC := same_upd' (u := .lst (ps.map rf)) (same_upd (u := .lst (pb.map rf)) hc1) hc2
  have k1 : upd (upd H4 c1 (.lst (pb.map rf))) c2 (.lst (ps.map rf)) c1 = some (.lst (pb.map rf)) := at_upd upd_same hc2
  have k2 : upd (upd H4 c1 (.lst (pb.map rf))) c2 (.lst (ps.map rf)) c2 = some (.lst (ps.map rf)) := upd_same
  generalize upd (upd H4 c1 (.lst (pb.map rf))) c2 (.lst (ps.map rf)) = H5 at sC k1 k2
  have hT5 := hT4.same sC
  have hb := sC _ _ hb
  have hs := sC _ _ hs
  have hO1 := hO1.same sC
  have hO2 := hO2.same sC
  have hnm := sC _ _ hnm
  refine ⟨_, rfl, c1, pb, c2, ps, near, rfl, k1, k2, hO1, hO2, ⟨by omega, by omega, few_len (by omega)⟩, fun x hx => (d1 x hx).2.1, fun x hx => (d2 x hx).2.1, hT5, fun H6 t v L1 L2 L3 ts qb qs W sT tk ht f1 f2 f3 n23 kL1 kL2 kL3 trs oB oS due vol aB aS trd same0 tl => ?_⟩
  have hb := lT hT5 sT hb
  have hs := lT hT5 sT hs
  have hO1 := ordsT hT5 sT hO1
  have hO2 := ordsT hT5 sT hO2
  have hnm := lT hT5 sT hnm
  have W0 : 0 ≤ W := by rcases vol with ⟨_, z⟩ | ⟨_, _, _, z⟩ <;> omega
  have pB : ∀ x ∈ pb.map (·.2), 1 ≤ x.l := fun x hx => (good_s d1 x hx).2
  have pS : ∀ x ∈ ps.map (·.2), 1 ≤ x.l := fun x hx => (good_s d2 x hx).2
  have lB : qb.length ≤ pb.length := by have := aft_len (pb.map (·.2)) W; rw [← aB, List.length_map, List.length_map] at this; exact this
  have lS : qs.length ≤ ps.length := by have := aft_len (ps.map (·.2)) W; rw [← aS, List.length_map, List.length_map] at this; exact this
  have hv : v = .non ∨ ∃ p, v = .int p := by
    rcases vol with ⟨z, _⟩ | ⟨p, z, _⟩
    · exact .inl z
    · exact .inr ⟨p, z⟩
  refine ⟨_, rfl, _, rfl, by walk_at "sz", fun pl hpl => ⟨pl, rfl, ⟨_, .inl (.inl upd_same)⟩, ?_⟩⟩
  have sP := same_upd (u := .lst [V.ref b, V.ref s0]) hpl
  have kpl : upd H6 pl (.lst [V.ref b, V.ref s0]) pl = some (.lst [V.ref b, V.ref s0]) := upd_same
  generalize upd H6 pl (.lst [V.ref b, V.ref s0]) = H7 at sP kpl
  have hb := sP _ _ hb
  have hs := sP _ _ hs
  have hO1 := hO1.same sP
  have hO2 := hO2.same sP
  have hnm := sP _ _ hnm
  refine comp_invF (K := K) (a := pl) (ps := [b, s0]) (r := V.ref) (fun i ys H' => Same H7 H' ∧ ∃ rs : List Addr, ys = rs.map V.ref ∧ rs.length = i ∧ ∀ (j : Nat) (r : Addr) (p : List AO), rs[j]? = some r → [pb, ps][j]? = some p → PtL nm ot H' r p) ⟨Same.refl _, [], rfl, rfl, fun j r p e => nomatch e⟩ (fun i ys H' z => .inl (.inl (z.1 _ _ kpl))) (fun i ys H' z => ?_) (szOk (show 2 ≤ 16777216 by decide)) (fun i x ys H' hx z => ?_) (fun ys H' z => ?_)
  · obtain ⟨_, rs, rfl, e, _⟩ := z
    rw [List.length_map, e]
    exact Nat.le_refl _
  · obtain ⟨sm, rs, rfl, er, pr⟩ := z
    have hi : i < 2 := (List.getElem?_eq_some_iff.mp hx).1
    obtain ⟨p, hp, hx', hO', hl', hg'⟩ : ∃ p : List AO, [pb, ps][i]? = some p ∧ H' x = some (.lst (p.map rf)) ∧ Ords H' p ∧ p.length ≤ 48 ∧ ∀ z ∈ p, 1 ≤ z.2.l := by
      rcases (show i = 0 ∨ i = 1 by omega) with rfl | rfl
      · cases (show b = x from Option.some.inj hx)
        exact ⟨pb, rfl, sm _ _ hb, hO1.same sm, by omega, fun z hz => (d1 z hz).2.1⟩
      · cases (show s0 = x from Option.some.inj hx)
        exact ⟨ps, rfl, sm _ _ hs, hO2.same sm, by omega, fun z hz => (d2 z hz).2.1⟩
    refine ⟨rfl, iteT (B := Same H7 H' ∧ ∃ rs_1 : List Addr, rs.map V.ref = rs_1.map V.ref ∧ rs_1.length = i + 1 ∧ ∀ (j : Nat) (r : Addr) (p : List AO), rs_1[j]? = some r → [pb, ps][j]? = some p → PtL nm ot H' r p) ?_⟩
    refine ⟨_, rfl, _, rfl, n, _, _, _, rfl, rfl, .inl (.inl (sm _ _ hnm)), rfl, _, rfl, n, _, _, _, rfl, rfl, .inl (.inl (sm _ _ hnm)), rfl, _, rfl, _, _, rfl, rfl, ⟨by decide, by decide⟩, x, p, nm, ot, _, rfl, .inl (.inl hx'), hO', hl', hg', fun H8 r s8 ptl => ?_⟩
    refine ⟨sm.trans s8, rs ++ [r], by rw [List.map_append]; rfl, by rw [List.length_append, er]; rfl, fun j r' p' e1 e2 => ?_⟩
    by_cases c : j < rs.length
    · rw [List.getElem?_append_left c] at e1
      exact (pr j r' p' e1 e2).same s8
    · have lj := (List.getElem?_eq_some_iff.mp e1).1
      rw [List.length_append] at lj
      have lj : j < rs.length + 1 := lj
      have ej : j = i := by omega
      subst ej
      rw [List.getElem?_append_right (by omega), er, Nat.sub_self] at e1
      cases (show r = r' from Option.some.inj e1)
      rw [hp] at e2
      cases e2
      exact ptl
  obtain ⟨s8, rs, rfl, er, pr⟩ := z
  have er : rs.length = 2 := er
  obtain ⟨r1, r2, rfl⟩ : ∃ r1 r2, rs = [r1, r2] := by
    match rs, er with
    | [r1, r2], _ => exact ⟨r1, r2, rfl⟩
  obtain ⟨pb2, kb2, ob2, ptB⟩ := pr 0 r1 pb rfl rfl
  obtain ⟨ps2, ks2, os2, ptS⟩ := pr 1 r2 ps rfl rfl
  show NewL _ [V.ref r1, V.ref r2] H'
  intro pd hpd
  have sR := same_upd (u := .lst [V.ref r1, V.ref r2]) hpd
  have kpd : upd H' pd (.lst [V.ref r1, V.ref r2]) pd = some (.lst [V.ref r1, V.ref r2]) := upd_same
  have s9 := sP.trans (s8.trans sR)
  have kb2 := sR _ _ kb2
  have ks2 := sR _ _ ks2
  have ob2 := ob2.same sR
  have os2 := os2.same sR
  have hnm := (s8.trans sR) _ _ hnm
  generalize upd H' pd (.lst [V.ref r1, V.ref r2]) = H8 at kpd s9 kb2 ks2 ob2 os2 hnm
  have ht := s9 _ _ ht
  have kL1 := s9 _ _ kL1
  have kL2 := s9 _ _ kL2
  have kL3 := s9 _ _ kL3
  have trs := trs.same s9
  have oB := oB.same s9
  have oS := oS.same s9
  have tk := tk.same s9
  have lb2 := pt_len2 ptB
  have ls2 := pt_len2 ptS
  rw [List.length_map, List.length_map] at lb2 ls2
  have pB2 := pt_pos ptB pB
  have pS2 := pt_pos ptS pS
  refine ⟨_, rfl, pd, _, _, _, rfl, rfl, .inl (.inl kpd), rfl, _, rfl, pd, _, _, _, rfl, rfl, .inl (.inl kpd), rfl, _, rfl, r1, pb2, r2, ps2, near, rfl, kb2, ks2, ob2, os2, ⟨by omega, by omega, few_pt ptB ptS (by omega)⟩, fun x hx => pB2 _ (List.mem_map.mpr ⟨x, hx, rfl⟩), fun x hx => pS2 _ (List.mem_map.mpr ⟨x, hx, rfl⟩), tk, fun H9 t9 v9 M1 M2 M3 ts9 qb9 qs9 W9 sT9 tk9 ht9 g1 g2 g3 n9 kM1 kM2 kM3 trs9 oB9 oS9 due9 vol9 aB9 aS9 trd9 same9 tl9 => ?_⟩
  cases due_pt ptB ptS due due9
  cases vol_pt ptB ptS vol vol9
  have hnm := lT tk sT9 hnm
  have kL1 := lT tk sT9 kL1
  have kL2 := lT tk sT9 kL2
  have kL3 := lT tk sT9 kL3
  have oB := ordsT tk sT9 oB
  have oS := ordsT tk sT9 oS
  have ht : H9 t = some (.tup [v, .ref L1, .ref L2, .ref L3]) := sT9 _ _ (fun z => by obtain ⟨tp, hh, _⟩ := tk; rw [z, hh] at ht; cases ht) ht
  have trs : Trs H9 ts := fun u hu => sT9 _ _ (fun z => by obtain ⟨tp, hh, _⟩ := tk; have := trs u hu; rw [z, hh] at this; cases this) (trs u hu)
  have lB9 : qb9.length ≤ pb2.length := by have := aft_len (pb2.map (·.2)) W; rw [← aB9, List.length_map, List.length_map] at this; exact this
  have lS9 : qs9.length ≤ ps2.length := by have := aft_len (ps2.map (·.2)) W; rw [← aS9, List.length_map, List.length_map] at this; exact this
  refine ⟨_, rfl, t, v, L1, L2, L3, ts, qb, qs, rfl, ht, kL1, kL2, kL3, trs, oB, oS, hv, _, rfl, iteF ?_⟩
  refine ⟨_, rfl, t9, v, M1, M2, M3, ts9, qb9, qs9, rfl, ht9, kM1, kM2, kM3, trs9, oB9, oS9, hv, _, rfl, iteF ?_⟩
  refine ⟨_, rfl, t, _, _, _, rfl, rfl, .inl (.inl ht), rfl, _, rfl, t9, _, _, _, rfl, rfl, .inl (.inl ht9), rfl, (by rcases hv with z | ⟨p, z⟩ <;> rw [z] <;> rfl), _, rfl, iteNS rfl ?_⟩
  refine ⟨_, rfl, t, _, _, _, rfl, rfl, .inl (.inl ht), rfl, _, rfl, n, _, _, _, rfl, rfl, .inl (.inl hnm), rfl, _, rfl, n, _, _, _, rfl, rfl, .inl (.inl hnm), rfl, L1, ts, nm, ot, rfl, kL1, trs, by omega, fun HA dA kA sA kdA pdA => ?_⟩
  have ht := sA _ _ ht
  have ht9 := sA _ _ ht9
  have hnm := sA _ _ hnm
  refine ⟨_, rfl, t9, _, _, _, rfl, rfl, .inl (.inl ht9), rfl, _, rfl, n, _, _, _, rfl, rfl, .inl (.inl hnm), rfl, _, rfl, n, _, _, _, rfl, rfl, .inl (.inl hnm), rfl, M1, ts9, nm, ot, rfl, sA _ _ kM1, trs9.same sA, by omega, fun HG dB kB sB kdB pdB => ?_⟩
  refine ⟨dA, dB, kA, kB, rfl, rfl, sB _ _ kdA, kdB, pdA.same pdB (trd.one pB pS W0) (trd9.one pB2 pS2 W0) (pairs_pt trd trd9 ptB ptS pB pS pB2 pS2 W0), (fun k u e => (pdA.2 k u e).2), _, rfl, iteF ?_⟩
  have sC := sA.trans sB
  refine ⟨by walk_at "sz", fun kl hkl => ⟨kl, rfl, ⟨_, .inl (.inl upd_same)⟩, ?_⟩⟩
  have sD := same_upd' (u := .lst [V.int 2, V.int 3]) sC hkl
  have kkl : upd HG kl (.lst [V.int 2, V.int 3]) kl = some (.lst [V.int 2, V.int 3]) := upd_same
  have ht := (same_upd' (u := .lst [V.int 2, V.int 3]) sB hkl) _ _ ht
  have ht9 := (same_upd' (u := .lst [V.int 2, V.int 3]) sB hkl) _ _ ht9
  have hnm := (same_upd' (u := .lst [V.int 2, V.int 3]) sB hkl) _ _ hnm
  generalize upd HG kl (.lst [V.int 2, V.int 3]) = HC at sD kkl ht ht9 hnm
  have kL2 := sD _ _ kL2
  have kL3 := sD _ _ kL3
  have kM2 := sD _ _ kM2
  have kM3 := sD _ _ kM3
  have oB := oB.same sD
  have oS := oS.same sD
  have oB9 := oB9.same sD
  have oS9 := oS9.same sD
  refine for_list (K := K) (a := kl) (xs := [V.int 2, V.int 3]) (fun i σ H' => Same HC H' ∧ ∃ v10 : Option V, σ = [some (.ref a), some (.ref b), some (.ref s0), some (.int (cell ns 0)), some (.int (cell ns 1)), some (.int near), some (.ref n), some (.ref t), some (.ref pd), some (.ref t9), v10]) ⟨Same.refl _, _, rfl⟩ (fun i σ H' _ z => .inl (.inl (z.1 _ _ kkl))) (fun i x σ H' hx z => ?_) (fun σ H' z => q _)
  obtain ⟨sm, v10, rfl⟩ := z
  have hi : i < 2 := (List.getElem?_eq_some_iff.mp hx).1
  rcases (show i = 0 ∨ i = 1 by omega) with rfl | rfl
  · cases (show V.int 2 = x from Option.some.inj hx)
    have oX := oB
    have oY := oB9
    refine ⟨_, rfl, _, rfl, t, _, _, _, rfl, rfl, .inl (.inl (sm _ _ ht)), rfl, _, rfl, L2, qb, n, nm, ot, rfl, .inl (.inl (sm _ _ kL2)), oX.same sm, sm _ _ hnm, by omega, fun HA lA sA fA kA => ?_⟩
    have sm1 := sm.trans sA
    refine ⟨_, rfl, _, rfl, t9, _, _, _, rfl, rfl, .inl (.inl (sm1 _ _ ht9)), rfl, _, rfl, M2, qb9, n, nm, ot, rfl, .inl (.inl (sm1 _ _ kM2)), oY.same sm1, sm1 _ _ hnm, by omega, fun HG lB sB fB kB => ?_⟩
    have sm2 := sm1.trans sB
    have eR : (qb.filter fun x => oth nm ot x.2).map (·.2) = (qb9.filter fun x => oth nm ot x.2).map (·.2) := by
      rw [flt_map, flt_map, aB, aB9]
      exact (pt_aft ptB W W0).1.symm
    have eL : lft nm ot (qb.map (·.2)) = lft nm ot (qb9.map (·.2)) := by
      rw [aB, aB9]
      exact (pt_aft ptB W W0).2.symm
    obtain ⟨le, he⟩ := eqH_ods (K := K) (ords_flt (oX.same sm2)) (ords_flt (oY.same sm2)) eR
    refine ⟨lA, lB, _, _, rfl, rfl, .inl (.inl (sB _ _ kA)), .inl (.inl kB), .inr ⟨le, fun _ => true, he, false, by simp, iteF ?_⟩⟩
    refine ⟨_, rfl, _, rfl, t, _, _, _, rfl, rfl, .inl (.inl (sm2 _ _ ht)), rfl, _, rfl, L2, qb, n, nm, ot, rfl, .inl (.inl (sm2 _ _ kL2)), oX.same sm2, sm2 _ _ hnm, by omega, fun HC sC => ?_⟩
    have sm3 := sm2.trans sC
    refine ⟨_, rfl, _, rfl, t9, _, _, _, rfl, rfl, .inl (.inl (sm3 _ _ ht9)), rfl, _, rfl, M2, qb9, n, nm, ot, rfl, .inl (.inl (sm3 _ _ kM2)), oY.same sm3, sm3 _ _ hnm, by omega, fun HD sD => ?_⟩
    refine ⟨rfl, _, rfl, iteNS (by rw [eL]) ?_⟩
    exact ⟨sm3.trans sD, _, rfl⟩
  · cases (show V.int 3 = x from Option.some.inj hx)
    have oX := oS
    have oY := oS9
    refine ⟨_, rfl, _, rfl, t, _, _, _, rfl, rfl, .inl (.inl (sm _ _ ht)), rfl, _, rfl, L3, qs, n, nm, ot, rfl, .inl (.inl (sm _ _ kL3)), oX.same sm, sm _ _ hnm, by omega, fun HA lA sA fA kA => ?_⟩
    have sm1 := sm.trans sA
    refine ⟨_, rfl, _, rfl, t9, _, _, _, rfl, rfl, .inl (.inl (sm1 _ _ ht9)), rfl, _, rfl, M3, qs9, n, nm, ot, rfl, .inl (.inl (sm1 _ _ kM3)), oY.same sm1, sm1 _ _ hnm, by omega, fun HG lB sB fB kB => ?_⟩
    have sm2 := sm1.trans sB
    have eR : (qs.filter fun x => oth nm ot x.2).map (·.2) = (qs9.filter fun x => oth nm ot x.2).map (·.2) := by
      rw [flt_map, flt_map, aS, aS9]
      exact (pt_aft ptS W W0).1.symm
    have eL : lft nm ot (qs.map (·.2)) = lft nm ot (qs9.map (·.2)) := by
      rw [aS, aS9]
      exact (pt_aft ptS W W0).2.symm
    obtain ⟨le, he⟩ := eqH_ods (K := K) (ords_flt (oX.same sm2)) (ords_flt (oY.same sm2)) eR
    refine ⟨lA, lB, _, _, rfl, rfl, .inl (.inl (sB _ _ kA)), .inl (.inl kB), .inr ⟨le, fun _ => true, he, false, by simp, iteF ?_⟩⟩
    refine ⟨_, rfl, _, rfl, t, _, _, _, rfl, rfl, .inl (.inl (sm2 _ _ ht)), rfl, _, rfl, L3, qs, n, nm, ot, rfl, .inl (.inl (sm2 _ _ kL3)), oX.same sm2, sm2 _ _ hnm, by omega, fun HC sC => ?_⟩
    have sm3 := sm2.trans sC
    refine ⟨_, rfl, _, rfl, t9, _, _, _, rfl, rfl, .inl (.inl (sm3 _ _ ht9)), rfl, _, rfl, M3, qs9, n, nm, ot, rfl, .inl (.inl (sm3 _ _ kM3)), oY.same sm3, sm3 _ _ hnm, by omega, fun HD sD => ?_⟩
    refine ⟨rfl, _, rfl, iteNS (by rw [eL]) ?_⟩
    exact ⟨sm3.trans sD, _, rfl⟩
end
theorem all_mk {l : PySem.W.OpenLaw} {w : World} {K : PySem.W.Frag} {h : Heap} {mg : Str → Option Value} {fa f_ahead f_allows f_shown_anew f_with_parts f_fresh f_allowing f_wanted f_offered f_volume f_surplus f_limits f_rank_of f_call_price f_traded f_called f__law_cell_at f__law_whole f__law_signs f__law_name f__law_price f__law_asked f__law_order f__law_ahead f__law_lines f__law_orders f__law_told f__law_parted f__law_pairs f__law_rest f__law_left f_law  : Addr} {cT T : Addr} (X : K.In h) (G : h.Ns mainGlobals mg) (hfa : mg "law" = some (.ref fa))
    {od_ahead an_ahead od_allows an_allows od_shown_anew an_shown_anew od_with_parts an_with_parts od_fresh an_fresh od_allowing an_allowing od_wanted an_wanted od_offered an_offered od_volume an_volume od_surplus an_surplus od_limits an_limits od_rank_of an_rank_of od_call_price an_call_price od_traded an_traded od_called an_called od__law_cell_at an__law_cell_at od__law_whole an__law_whole od__law_signs an__law_signs od__law_name an__law_name od__law_price an__law_price od__law_asked an__law_asked od__law_order an__law_order od__law_ahead an__law_ahead od__law_lines an__law_lines od__law_orders an__law_orders od__law_told an__law_told od__law_parted an__law_parted od__law_pairs an__law_pairs od__law_rest an__law_rest od__law_left an__law_left od_law an_law : Option Addr} {sl_ahead sl_allows sl_shown_anew sl_with_parts sl_fresh sl_allowing sl_wanted sl_offered sl_volume sl_surplus sl_limits sl_rank_of sl_call_price sl_traded sl_called sl__law_cell_at sl__law_whole sl__law_signs sl__law_name sl__law_price sl__law_asked sl__law_order sl__law_ahead sl__law_lines sl__law_orders sl__law_told sl__law_parted sl__law_pairs sl__law_rest sl__law_left sl_law : Array (Option Value)} {oc_ahead kV_ahead dc_ahead pm_ahead cd_ahead ct_ahead oc_allows kV_allows dc_allows pm_allows cd_allows ct_allows oc_shown_anew kV_shown_anew dc_shown_anew pm_shown_anew cd_shown_anew ct_shown_anew oc_with_parts kV_with_parts dc_with_parts pm_with_parts cd_with_parts ct_with_parts oc_fresh kV_fresh dc_fresh pm_fresh cd_fresh ct_fresh oc_allowing kV_allowing dc_allowing pm_allowing cd_allowing ct_allowing oc_wanted kV_wanted dc_wanted pm_wanted cd_wanted ct_wanted oc_offered kV_offered dc_offered pm_offered cd_offered ct_offered oc_volume kV_volume dc_volume pm_volume cd_volume ct_volume oc_surplus kV_surplus dc_surplus pm_surplus cd_surplus ct_surplus oc_limits kV_limits dc_limits pm_limits cd_limits ct_limits oc_rank_of kV_rank_of dc_rank_of pm_rank_of cd_rank_of ct_rank_of oc_call_price kV_call_price dc_call_price pm_call_price ct_call_price oc_traded kV_traded dc_traded pm_traded cd_traded ct_traded oc_called kV_called dc_called pm_called cd_called ct_called oc__law_cell_at kV__law_cell_at dc__law_cell_at pm__law_cell_at cd__law_cell_at ct__law_cell_at oc__law_whole kV__law_whole dc__law_whole pm__law_whole cd__law_whole ct__law_whole oc__law_signs kV__law_signs dc__law_signs pm__law_signs cd__law_signs ct__law_signs oc__law_name kV__law_name dc__law_name pm__law_name cd__law_name ct__law_name oc__law_price kV__law_price dc__law_price pm__law_price cd__law_price ct__law_price oc__law_asked kV__law_asked dc__law_asked pm__law_asked cd__law_asked ct__law_asked oc__law_order kV__law_order dc__law_order pm__law_order cd__law_order ct__law_order oc__law_ahead kV__law_ahead dc__law_ahead pm__law_ahead cd__law_ahead ct__law_ahead oc__law_lines kV__law_lines dc__law_lines pm__law_lines cd__law_lines ct__law_lines oc__law_orders kV__law_orders dc__law_orders pm__law_orders cd__law_orders ct__law_orders oc__law_told kV__law_told dc__law_told pm__law_told cd__law_told ct__law_told oc__law_parted kV__law_parted dc__law_parted pm__law_parted cd__law_parted ct__law_parted oc__law_pairs kV__law_pairs dc__law_pairs pm__law_pairs cd__law_pairs ct__law_pairs oc__law_rest kV__law_rest dc__law_rest pm__law_rest cd__law_rest ct__law_rest oc__law_left kV__law_left dc__law_left pm__law_left cd__law_left ct__law_left oc_law kV_law dc_law pm_law cd_law ct_law : Value} {t_LEFT t_NAME t_PEAK t_PRICE t_SIDE : Tok}
    (a_ahead : PySem.W.nsIn K mainGlobals "ahead" = some (some (.ref f_ahead)))
    (l_ahead : K.lookup f_ahead = some ⟨oc_ahead, od_ahead, .func (PySem.W.fnOf "ahead" "ahead" (defArgs (top 7)) (defBody (top 7)) (defScope (top 7)) .none kV_ahead dc_ahead pm_ahead an_ahead cd_ahead ct_ahead), sl_ahead⟩)
    (q_ahead : PySem.W.codeIn K cd_ahead "ahead" = true)
    (k_ahead : PySem.W.keepIn K (.ref f_ahead) = true)
    (a_allows : PySem.W.nsIn K mainGlobals "allows" = some (some (.ref f_allows)))
    (l_allows : K.lookup f_allows = some ⟨oc_allows, od_allows, .func (PySem.W.fnOf "allows" "allows" (defArgs (top 8)) (defBody (top 8)) (defScope (top 8)) .none kV_allows dc_allows pm_allows an_allows cd_allows ct_allows), sl_allows⟩)
    (q_allows : PySem.W.codeIn K cd_allows "allows" = true)
    (k_allows : PySem.W.keepIn K (.ref f_allows) = true)
    (a_shown_anew : PySem.W.nsIn K mainGlobals "shown_anew" = some (some (.ref f_shown_anew)))
    (l_shown_anew : K.lookup f_shown_anew = some ⟨oc_shown_anew, od_shown_anew, .func (PySem.W.fnOf "shown_anew" "shown_anew" (defArgs (top 9)) (defBody (top 9)) (defScope (top 9)) .none kV_shown_anew dc_shown_anew pm_shown_anew an_shown_anew cd_shown_anew ct_shown_anew), sl_shown_anew⟩)
    (q_shown_anew : PySem.W.codeIn K cd_shown_anew "shown_anew" = true)
    (k_shown_anew : PySem.W.keepIn K (.ref f_shown_anew) = true)
    (a_with_parts : PySem.W.nsIn K mainGlobals "with_parts" = some (some (.ref f_with_parts)))
    (l_with_parts : K.lookup f_with_parts = some ⟨oc_with_parts, od_with_parts, .func (PySem.W.fnOf "with_parts" "with_parts" (defArgs (top 10)) (defBody (top 10)) (defScope (top 10)) .none kV_with_parts dc_with_parts pm_with_parts an_with_parts cd_with_parts ct_with_parts), sl_with_parts⟩)
    (q_with_parts : PySem.W.codeIn K cd_with_parts "with_parts" = true)
    (k_with_parts : PySem.W.keepIn K (.ref f_with_parts) = true)
    (a_fresh : PySem.W.nsIn K mainGlobals "fresh" = some (some (.ref f_fresh)))
    (l_fresh : K.lookup f_fresh = some ⟨oc_fresh, od_fresh, .func (PySem.W.fnOf "fresh" "fresh" (defArgs (top 6)) (defBody (top 6)) (defScope (top 6)) .none kV_fresh dc_fresh pm_fresh an_fresh cd_fresh ct_fresh), sl_fresh⟩)
    (q_fresh : PySem.W.codeIn K cd_fresh "fresh" = true)
    (k_fresh : PySem.W.keepIn K (.ref f_fresh) = true)
    (a_allowing : PySem.W.nsIn K mainGlobals "allowing" = some (some (.ref f_allowing)))
    (l_allowing : K.lookup f_allowing = some ⟨oc_allowing, od_allowing, .func (PySem.W.fnOf "allowing" "allowing" (defArgs (top 17)) (defBody (top 17)) (defScope (top 17)) .none kV_allowing dc_allowing pm_allowing an_allowing cd_allowing ct_allowing), sl_allowing⟩)
    (q_allowing : PySem.W.codeIn K cd_allowing "allowing" = true)
    (k_allowing : PySem.W.keepIn K (.ref f_allowing) = true)
    (a_wanted : PySem.W.nsIn K mainGlobals "wanted" = some (some (.ref f_wanted)))
    (l_wanted : K.lookup f_wanted = some ⟨oc_wanted, od_wanted, .func (PySem.W.fnOf "wanted" "wanted" (defArgs (top 12)) (defBody (top 12)) (defScope (top 12)) .none kV_wanted dc_wanted pm_wanted an_wanted cd_wanted ct_wanted), sl_wanted⟩)
    (q_wanted : PySem.W.codeIn K cd_wanted "wanted" = true)
    (k_wanted : PySem.W.keepIn K (.ref f_wanted) = true)
    (a_offered : PySem.W.nsIn K mainGlobals "offered" = some (some (.ref f_offered)))
    (l_offered : K.lookup f_offered = some ⟨oc_offered, od_offered, .func (PySem.W.fnOf "offered" "offered" (defArgs (top 13)) (defBody (top 13)) (defScope (top 13)) .none kV_offered dc_offered pm_offered an_offered cd_offered ct_offered), sl_offered⟩)
    (q_offered : PySem.W.codeIn K cd_offered "offered" = true)
    (k_offered : PySem.W.keepIn K (.ref f_offered) = true)
    (a_volume : PySem.W.nsIn K mainGlobals "volume" = some (some (.ref f_volume)))
    (l_volume : K.lookup f_volume = some ⟨oc_volume, od_volume, .func (PySem.W.fnOf "volume" "volume" (defArgs (top 14)) (defBody (top 14)) (defScope (top 14)) .none kV_volume dc_volume pm_volume an_volume cd_volume ct_volume), sl_volume⟩)
    (q_volume : PySem.W.codeIn K cd_volume "volume" = true)
    (k_volume : PySem.W.keepIn K (.ref f_volume) = true)
    (a_surplus : PySem.W.nsIn K mainGlobals "surplus" = some (some (.ref f_surplus)))
    (l_surplus : K.lookup f_surplus = some ⟨oc_surplus, od_surplus, .func (PySem.W.fnOf "surplus" "surplus" (defArgs (top 15)) (defBody (top 15)) (defScope (top 15)) .none kV_surplus dc_surplus pm_surplus an_surplus cd_surplus ct_surplus), sl_surplus⟩)
    (q_surplus : PySem.W.codeIn K cd_surplus "surplus" = true)
    (k_surplus : PySem.W.keepIn K (.ref f_surplus) = true)
    (a_limits : PySem.W.nsIn K mainGlobals "limits" = some (some (.ref f_limits)))
    (l_limits : K.lookup f_limits = some ⟨oc_limits, od_limits, .func (PySem.W.fnOf "limits" "limits" (defArgs (top 16)) (defBody (top 16)) (defScope (top 16)) .none kV_limits dc_limits pm_limits an_limits cd_limits ct_limits), sl_limits⟩)
    (q_limits : PySem.W.codeIn K cd_limits "limits" = true)
    (k_limits : PySem.W.keepIn K (.ref f_limits) = true)
    (a_rank_of : PySem.W.nsIn K mainGlobals "rank_of" = some (some (.ref f_rank_of)))
    (l_rank_of : K.lookup f_rank_of = some ⟨oc_rank_of, od_rank_of, .func (PySem.W.fnOf "rank_of" "rank_of" (defArgs (top 21)) (defBody (top 21)) (defScope (top 21)) .none kV_rank_of dc_rank_of pm_rank_of an_rank_of cd_rank_of ct_rank_of), sl_rank_of⟩)
    (q_rank_of : PySem.W.codeIn K cd_rank_of "rank_of" = true)
    (k_rank_of : PySem.W.keepIn K (.ref f_rank_of) = true)
    (a_call_price : PySem.W.nsIn K mainGlobals "call_price" = some (some (.ref f_call_price)))
    (l_call_price : K.lookup f_call_price = some ⟨oc_call_price, od_call_price, .func (PySem.W.fnOf "call_price" "call_price" (defArgs (top 19)) (defBody (top 19)) (defScope (top 19)) .none kV_call_price dc_call_price pm_call_price an_call_price (.ref cT) ct_call_price), sl_call_price⟩)
    (q_call_price : PySem.W.codeIn K (.ref cT) "call_price" = true)
    (k_call_price : PySem.W.keepIn K (.ref f_call_price) = true)
    (t_C : PySem.W.codeHdIn K cT T = true)
    (a_traded : PySem.W.nsIn K mainGlobals "traded" = some (some (.ref f_traded)))
    (l_traded : K.lookup f_traded = some ⟨oc_traded, od_traded, .func (PySem.W.fnOf "traded" "traded" (defArgs (top 22)) (defBody (top 22)) (defScope (top 22)) .none kV_traded dc_traded pm_traded an_traded cd_traded ct_traded), sl_traded⟩)
    (q_traded : PySem.W.codeIn K cd_traded "traded" = true)
    (k_traded : PySem.W.keepIn K (.ref f_traded) = true)
    (a_called : PySem.W.nsIn K mainGlobals "called" = some (some (.ref f_called)))
    (l_called : K.lookup f_called = some ⟨oc_called, od_called, .func (PySem.W.fnOf "called" "called" (defArgs (top 20)) (defBody (top 20)) (defScope (top 20)) .none kV_called dc_called pm_called an_called cd_called ct_called), sl_called⟩)
    (q_called : PySem.W.codeIn K cd_called "called" = true)
    (k_called : PySem.W.keepIn K (.ref f_called) = true)
    (a__law_cell_at : PySem.W.nsIn K mainGlobals "_law_cell_at" = some (some (.ref f__law_cell_at)))
    (l__law_cell_at : K.lookup f__law_cell_at = some ⟨oc__law_cell_at, od__law_cell_at, .func (PySem.W.fnOf "_law_cell_at" "_law_cell_at" (defArgs (top 24)) (defBody (top 24)) (defScope (top 24)) .none kV__law_cell_at dc__law_cell_at pm__law_cell_at an__law_cell_at cd__law_cell_at ct__law_cell_at), sl__law_cell_at⟩)
    (q__law_cell_at : PySem.W.codeIn K cd__law_cell_at "_law_cell_at" = true)
    (k__law_cell_at : PySem.W.keepIn K (.ref f__law_cell_at) = true)
    (a__law_whole : PySem.W.nsIn K mainGlobals "_law_whole" = some (some (.ref f__law_whole)))
    (l__law_whole : K.lookup f__law_whole = some ⟨oc__law_whole, od__law_whole, .func (PySem.W.fnOf "_law_whole" "_law_whole" (defArgs (top 25)) (defBody (top 25)) (defScope (top 25)) .none kV__law_whole dc__law_whole pm__law_whole an__law_whole cd__law_whole ct__law_whole), sl__law_whole⟩)
    (q__law_whole : PySem.W.codeIn K cd__law_whole "_law_whole" = true)
    (k__law_whole : PySem.W.keepIn K (.ref f__law_whole) = true)
    (a__law_signs : PySem.W.nsIn K mainGlobals "_law_signs" = some (some (.ref f__law_signs)))
    (l__law_signs : K.lookup f__law_signs = some ⟨oc__law_signs, od__law_signs, .func (PySem.W.fnOf "_law_signs" "_law_signs" (defArgs (top 26)) (defBody (top 26)) (defScope (top 26)) .none kV__law_signs dc__law_signs pm__law_signs an__law_signs cd__law_signs ct__law_signs), sl__law_signs⟩)
    (q__law_signs : PySem.W.codeIn K cd__law_signs "_law_signs" = true)
    (k__law_signs : PySem.W.keepIn K (.ref f__law_signs) = true)
    (a__law_name : PySem.W.nsIn K mainGlobals "_law_name" = some (some (.ref f__law_name)))
    (l__law_name : K.lookup f__law_name = some ⟨oc__law_name, od__law_name, .func (PySem.W.fnOf "_law_name" "_law_name" (defArgs (top 27)) (defBody (top 27)) (defScope (top 27)) .none kV__law_name dc__law_name pm__law_name an__law_name cd__law_name ct__law_name), sl__law_name⟩)
    (q__law_name : PySem.W.codeIn K cd__law_name "_law_name" = true)
    (k__law_name : PySem.W.keepIn K (.ref f__law_name) = true)
    (a__law_price : PySem.W.nsIn K mainGlobals "_law_price" = some (some (.ref f__law_price)))
    (l__law_price : K.lookup f__law_price = some ⟨oc__law_price, od__law_price, .func (PySem.W.fnOf "_law_price" "_law_price" (defArgs (top 28)) (defBody (top 28)) (defScope (top 28)) .none kV__law_price dc__law_price pm__law_price an__law_price cd__law_price ct__law_price), sl__law_price⟩)
    (q__law_price : PySem.W.codeIn K cd__law_price "_law_price" = true)
    (k__law_price : PySem.W.keepIn K (.ref f__law_price) = true)
    (a__law_asked : PySem.W.nsIn K mainGlobals "_law_asked" = some (some (.ref f__law_asked)))
    (l__law_asked : K.lookup f__law_asked = some ⟨oc__law_asked, od__law_asked, .func (PySem.W.fnOf "_law_asked" "_law_asked" (defArgs (top 29)) (defBody (top 29)) (defScope (top 29)) .none kV__law_asked dc__law_asked pm__law_asked an__law_asked cd__law_asked ct__law_asked), sl__law_asked⟩)
    (q__law_asked : PySem.W.codeIn K cd__law_asked "_law_asked" = true)
    (k__law_asked : PySem.W.keepIn K (.ref f__law_asked) = true)
    (a__law_order : PySem.W.nsIn K mainGlobals "_law_order" = some (some (.ref f__law_order)))
    (l__law_order : K.lookup f__law_order = some ⟨oc__law_order, od__law_order, .func (PySem.W.fnOf "_law_order" "_law_order" (defArgs (top 30)) (defBody (top 30)) (defScope (top 30)) .none kV__law_order dc__law_order pm__law_order an__law_order cd__law_order ct__law_order), sl__law_order⟩)
    (q__law_order : PySem.W.codeIn K cd__law_order "_law_order" = true)
    (k__law_order : PySem.W.keepIn K (.ref f__law_order) = true)
    (a__law_ahead : PySem.W.nsIn K mainGlobals "_law_ahead" = some (some (.ref f__law_ahead)))
    (l__law_ahead : K.lookup f__law_ahead = some ⟨oc__law_ahead, od__law_ahead, .func (PySem.W.fnOf "_law_ahead" "_law_ahead" (defArgs (top 31)) (defBody (top 31)) (defScope (top 31)) .none kV__law_ahead dc__law_ahead pm__law_ahead an__law_ahead cd__law_ahead ct__law_ahead), sl__law_ahead⟩)
    (q__law_ahead : PySem.W.codeIn K cd__law_ahead "_law_ahead" = true)
    (k__law_ahead : PySem.W.keepIn K (.ref f__law_ahead) = true)
    (a__law_lines : PySem.W.nsIn K mainGlobals "_law_lines" = some (some (.ref f__law_lines)))
    (l__law_lines : K.lookup f__law_lines = some ⟨oc__law_lines, od__law_lines, .func (PySem.W.fnOf "_law_lines" "_law_lines" (defArgs (top 32)) (defBody (top 32)) (defScope (top 32)) .none kV__law_lines dc__law_lines pm__law_lines an__law_lines cd__law_lines ct__law_lines), sl__law_lines⟩)
    (q__law_lines : PySem.W.codeIn K cd__law_lines "_law_lines" = true)
    (k__law_lines : PySem.W.keepIn K (.ref f__law_lines) = true)
    (a__law_orders : PySem.W.nsIn K mainGlobals "_law_orders" = some (some (.ref f__law_orders)))
    (l__law_orders : K.lookup f__law_orders = some ⟨oc__law_orders, od__law_orders, .func (PySem.W.fnOf "_law_orders" "_law_orders" (defArgs (top 33)) (defBody (top 33)) (defScope (top 33)) .none kV__law_orders dc__law_orders pm__law_orders an__law_orders cd__law_orders ct__law_orders), sl__law_orders⟩)
    (q__law_orders : PySem.W.codeIn K cd__law_orders "_law_orders" = true)
    (k__law_orders : PySem.W.keepIn K (.ref f__law_orders) = true)
    (a__law_told : PySem.W.nsIn K mainGlobals "_law_told" = some (some (.ref f__law_told)))
    (l__law_told : K.lookup f__law_told = some ⟨oc__law_told, od__law_told, .func (PySem.W.fnOf "_law_told" "_law_told" (defArgs (top 34)) (defBody (top 34)) (defScope (top 34)) .none kV__law_told dc__law_told pm__law_told an__law_told cd__law_told ct__law_told), sl__law_told⟩)
    (q__law_told : PySem.W.codeIn K cd__law_told "_law_told" = true)
    (k__law_told : PySem.W.keepIn K (.ref f__law_told) = true)
    (a__law_parted : PySem.W.nsIn K mainGlobals "_law_parted" = some (some (.ref f__law_parted)))
    (l__law_parted : K.lookup f__law_parted = some ⟨oc__law_parted, od__law_parted, .func (PySem.W.fnOf "_law_parted" "_law_parted" (defArgs (top 35)) (defBody (top 35)) (defScope (top 35)) .none kV__law_parted dc__law_parted pm__law_parted an__law_parted cd__law_parted ct__law_parted), sl__law_parted⟩)
    (q__law_parted : PySem.W.codeIn K cd__law_parted "_law_parted" = true)
    (k__law_parted : PySem.W.keepIn K (.ref f__law_parted) = true)
    (a__law_pairs : PySem.W.nsIn K mainGlobals "_law_pairs" = some (some (.ref f__law_pairs)))
    (l__law_pairs : K.lookup f__law_pairs = some ⟨oc__law_pairs, od__law_pairs, .func (PySem.W.fnOf "_law_pairs" "_law_pairs" (defArgs (top 36)) (defBody (top 36)) (defScope (top 36)) .none kV__law_pairs dc__law_pairs pm__law_pairs an__law_pairs cd__law_pairs ct__law_pairs), sl__law_pairs⟩)
    (q__law_pairs : PySem.W.codeIn K cd__law_pairs "_law_pairs" = true)
    (k__law_pairs : PySem.W.keepIn K (.ref f__law_pairs) = true)
    (a__law_rest : PySem.W.nsIn K mainGlobals "_law_rest" = some (some (.ref f__law_rest)))
    (l__law_rest : K.lookup f__law_rest = some ⟨oc__law_rest, od__law_rest, .func (PySem.W.fnOf "_law_rest" "_law_rest" (defArgs (top 37)) (defBody (top 37)) (defScope (top 37)) .none kV__law_rest dc__law_rest pm__law_rest an__law_rest cd__law_rest ct__law_rest), sl__law_rest⟩)
    (q__law_rest : PySem.W.codeIn K cd__law_rest "_law_rest" = true)
    (k__law_rest : PySem.W.keepIn K (.ref f__law_rest) = true)
    (a__law_left : PySem.W.nsIn K mainGlobals "_law_left" = some (some (.ref f__law_left)))
    (l__law_left : K.lookup f__law_left = some ⟨oc__law_left, od__law_left, .func (PySem.W.fnOf "_law_left" "_law_left" (defArgs (top 38)) (defBody (top 38)) (defScope (top 38)) .none kV__law_left dc__law_left pm__law_left an__law_left cd__law_left ct__law_left), sl__law_left⟩)
    (q__law_left : PySem.W.codeIn K cd__law_left "_law_left" = true)
    (k__law_left : PySem.W.keepIn K (.ref f__law_left) = true)
    (a_law : PySem.W.nsIn K mainGlobals "law" = some (some (.ref f_law)))
    (l_law : K.lookup f_law = some ⟨oc_law, od_law, .func (PySem.W.fnOf "law" "law" (defArgs (top 39)) (defBody (top 39)) (defScope (top 39)) .none kV_law dc_law pm_law an_law cd_law ct_law), sl_law⟩)
    (q_law : PySem.W.codeIn K cd_law "law" = true)
    (k_law : PySem.W.keepIn K (.ref f_law) = true)
    (z_abs : PySem.W.nsIn K mainGlobals "abs" = some none)
    (z_bool : PySem.W.nsIn K mainGlobals "bool" = some none)
    (z_int : PySem.W.nsIn K mainGlobals "int" = some none)
    (z_isinstance : PySem.W.nsIn K mainGlobals "isinstance" = some none)
    (z_len : PySem.W.nsIn K mainGlobals "len" = some none)
    (z_list : PySem.W.nsIn K mainGlobals "list" = some none)
    (z_max : PySem.W.nsIn K mainGlobals "max" = some none)
    (z_min : PySem.W.nsIn K mainGlobals "min" = some none)
    (z_range : PySem.W.nsIn K mainGlobals "range" = some none)
    (z_set : PySem.W.nsIn K mainGlobals "set" = some none)
    (z_sorted : PySem.W.nsIn K mainGlobals "sorted" = some none)
    (z_str : PySem.W.nsIn K mainGlobals "str" = some none)
    (z_sum : PySem.W.nsIn K mainGlobals "sum" = some none)
    (z_tuple : PySem.W.nsIn K mainGlobals "tuple" = some none)
    (u_LEFT : PySem.W.nsIn K mainGlobals "LEFT" = some (some (.int 4 t_LEFT)))
    (u_NAME : PySem.W.nsIn K mainGlobals "NAME" = some (some (.int 0 t_NAME)))
    (u_PEAK : PySem.W.nsIn K mainGlobals "PEAK" = some (some (.int 6 t_PEAK)))
    (u_PRICE : PySem.W.nsIn K mainGlobals "PRICE" = some (some (.int 3 t_PRICE)))
    (u_SIDE : PySem.W.nsIn K mainGlobals "SIDE" = some (some (.int 2 t_SIDE)))
    : ∃ (c : Addr) (fd : FuncData), PySem.W.codeHdIn K c T = true ∧ (∀ (s : Shared) (v : Value), BindsTo s fd ⟨[v], []⟩ [("script", v)]) ∧ ∀ base : Heap, K.In base → base.Ns mainGlobals mg → BM mg base → FnOk l.prog w K mg base CX0 11 fa fd ["script"] (sp_law K T) := by
  have e := hfa.symm.trans (PySem.W.mg_of X G a_law)
  cases e
  have B : Bl mg := ⟨PySem.W.mg_none_of X G z_abs, PySem.W.mg_none_of X G z_bool, PySem.W.mg_none_of X G z_int, PySem.W.mg_none_of X G z_isinstance, PySem.W.mg_none_of X G z_len, PySem.W.mg_none_of X G z_list, PySem.W.mg_none_of X G z_max, PySem.W.mg_none_of X G z_min, PySem.W.mg_none_of X G z_range, PySem.W.mg_none_of X G z_set, PySem.W.mg_none_of X G z_sorted, PySem.W.mg_none_of X G z_str, PySem.W.mg_none_of X G z_sum, PySem.W.mg_none_of X G z_tuple⟩
  let C : Co mg := ⟨_, _, _, _, _, PySem.W.mg_of X G u_LEFT, PySem.W.mg_of X G u_NAME, PySem.W.mg_of X G u_PEAK, PySem.W.mg_of X G u_PRICE, PySem.W.mg_of X G u_SIDE⟩
  let R : Er K mg := ⟨⟩
  let d_ahead : Dv K mg "ahead" (top 7) ["side", "price", "other"] := ⟨f_ahead, _, fun_mk (st := top 7) l_ahead q_ahead k_ahead, (fun_mk (st := top 7) l_ahead q_ahead k_ahead).binds fun _ _ _ _ _ _ us hl => match us, hl with | [_, _, _], _ => rfl, PySem.W.mg_of X G a_ahead⟩
  let d_allows : Dv K mg "allows" (top 8) ["side", "limit", "price"] := ⟨f_allows, _, fun_mk (st := top 8) l_allows q_allows k_allows, (fun_mk (st := top 8) l_allows q_allows k_allows).binds fun _ _ _ _ _ _ us hl => match us, hl with | [_, _, _], _ => rfl, PySem.W.mg_of X G a_allows⟩
  let d_shown_anew : Dv K mg "shown_anew" (top 9) ["left", "peak"] := ⟨f_shown_anew, _, fun_mk (st := top 9) l_shown_anew q_shown_anew k_shown_anew, (fun_mk (st := top 9) l_shown_anew q_shown_anew k_shown_anew).binds fun _ _ _ _ _ _ us hl => match us, hl with | [_, _], _ => rfl, PySem.W.mg_of X G a_shown_anew⟩
  let d_with_parts : Dv K mg "with_parts" (top 10) ["order", "left", "shown"] := ⟨f_with_parts, _, fun_mk (st := top 10) l_with_parts q_with_parts k_with_parts, (fun_mk (st := top 10) l_with_parts q_with_parts k_with_parts).binds fun _ _ _ _ _ _ us hl => match us, hl with | [_, _, _], _ => rfl, PySem.W.mg_of X G a_with_parts⟩
  let d_fresh : Dv K mg "fresh" (top 6) ["order", "left"] := ⟨f_fresh, _, fun_mk (st := top 6) l_fresh q_fresh k_fresh, (fun_mk (st := top 6) l_fresh q_fresh k_fresh).binds fun _ _ _ _ _ _ us hl => match us, hl with | [_, _], _ => rfl, PySem.W.mg_of X G a_fresh⟩
  let d_allowing : Dv K mg "allowing" (top 17) ["line", "price"] := ⟨f_allowing, _, fun_mk (st := top 17) l_allowing q_allowing k_allowing, (fun_mk (st := top 17) l_allowing q_allowing k_allowing).binds fun _ _ _ _ _ _ us hl => match us, hl with | [_, _], _ => rfl, PySem.W.mg_of X G a_allowing⟩
  let d_wanted : Dv K mg "wanted" (top 12) ["buys", "price"] := ⟨f_wanted, _, fun_mk (st := top 12) l_wanted q_wanted k_wanted, (fun_mk (st := top 12) l_wanted q_wanted k_wanted).binds fun _ _ _ _ _ _ us hl => match us, hl with | [_, _], _ => rfl, PySem.W.mg_of X G a_wanted⟩
  let d_offered : Dv K mg "offered" (top 13) ["sells", "price"] := ⟨f_offered, _, fun_mk (st := top 13) l_offered q_offered k_offered, (fun_mk (st := top 13) l_offered q_offered k_offered).binds fun _ _ _ _ _ _ us hl => match us, hl with | [_, _], _ => rfl, PySem.W.mg_of X G a_offered⟩
  let d_volume : Dv K mg "volume" (top 14) ["buys", "sells", "price"] := ⟨f_volume, _, fun_mk (st := top 14) l_volume q_volume k_volume, (fun_mk (st := top 14) l_volume q_volume k_volume).binds fun _ _ _ _ _ _ us hl => match us, hl with | [_, _, _], _ => rfl, PySem.W.mg_of X G a_volume⟩
  let d_surplus : Dv K mg "surplus" (top 15) ["buys", "sells", "price"] := ⟨f_surplus, _, fun_mk (st := top 15) l_surplus q_surplus k_surplus, (fun_mk (st := top 15) l_surplus q_surplus k_surplus).binds fun _ _ _ _ _ _ us hl => match us, hl with | [_, _, _], _ => rfl, PySem.W.mg_of X G a_surplus⟩
  let d_limits : Dv K mg "limits" (top 16) ["buys", "sells"] := ⟨f_limits, _, fun_mk (st := top 16) l_limits q_limits k_limits, (fun_mk (st := top 16) l_limits q_limits k_limits).binds fun _ _ _ _ _ _ us hl => match us, hl with | [_, _], _ => rfl, PySem.W.mg_of X G a_limits⟩
  let d_rank_of : Dv K mg "rank_of" (top 21) ["buys", "sells", "near", "price"] := ⟨f_rank_of, _, fun_mk (st := top 21) l_rank_of q_rank_of k_rank_of, (fun_mk (st := top 21) l_rank_of q_rank_of k_rank_of).binds fun _ _ _ _ _ _ us hl => match us, hl with | [_, _, _, _], _ => rfl, PySem.W.mg_of X G a_rank_of⟩
  let d_call_price : Dv K mg "call_price" (top 19) ["buys", "sells", "near"] := ⟨f_call_price, _, fun_mk (st := top 19) l_call_price q_call_price k_call_price, (fun_mk (st := top 19) l_call_price q_call_price k_call_price).binds fun _ _ _ _ _ _ us hl => match us, hl with | [_, _, _], _ => rfl, PySem.W.mg_of X G a_call_price⟩
  let d_traded : Dv K mg "traded" (top 22) ["line", "amount"] := ⟨f_traded, _, fun_mk (st := top 22) l_traded q_traded k_traded, (fun_mk (st := top 22) l_traded q_traded k_traded).binds fun _ _ _ _ _ _ us hl => match us, hl with | [_, _], _ => rfl, PySem.W.mg_of X G a_traded⟩
  let d_called : Dv K mg "called" (top 20) ["buys", "sells", "near"] := ⟨f_called, _, fun_mk (st := top 20) l_called q_called k_called, (fun_mk (st := top 20) l_called q_called k_called).binds fun _ _ _ _ _ _ us hl => match us, hl with | [_, _, _], _ => rfl, PySem.W.mg_of X G a_called⟩
  let d__law_cell_at : Dv K mg "_law_cell_at" (top 24) ["script", "k"] := ⟨f__law_cell_at, _, fun_mk (st := top 24) l__law_cell_at q__law_cell_at k__law_cell_at, (fun_mk (st := top 24) l__law_cell_at q__law_cell_at k__law_cell_at).binds fun _ _ _ _ _ _ us hl => match us, hl with | [_, _], _ => rfl, PySem.W.mg_of X G a__law_cell_at⟩
  let d__law_whole : Dv K mg "_law_whole" (top 25) ["found"] := ⟨f__law_whole, _, fun_mk (st := top 25) l__law_whole q__law_whole k__law_whole, (fun_mk (st := top 25) l__law_whole q__law_whole k__law_whole).binds fun _ _ _ _ _ _ us hl => match us, hl with | [_], _ => rfl, PySem.W.mg_of X G a__law_whole⟩
  let d__law_signs : Dv K mg "_law_signs" (top 26) ["cell", "many"] := ⟨f__law_signs, _, fun_mk (st := top 26) l__law_signs q__law_signs k__law_signs, (fun_mk (st := top 26) l__law_signs q__law_signs k__law_signs).binds fun _ _ _ _ _ _ us hl => match us, hl with | [_, _], _ => rfl, PySem.W.mg_of X G a__law_signs⟩
  let d__law_name : Dv K mg "_law_name" (top 27) ["cell", "k", "at"] := ⟨f__law_name, _, fun_mk (st := top 27) l__law_name q__law_name k__law_name, (fun_mk (st := top 27) l__law_name q__law_name k__law_name).binds fun _ _ _ _ _ _ us hl => match us, hl with | [_, _, _], _ => rfl, PySem.W.mg_of X G a__law_name⟩
  let d__law_price : Dv K mg "_law_price" (top 28) ["cell", "plan"] := ⟨f__law_price, _, fun_mk (st := top 28) l__law_price q__law_price k__law_price, (fun_mk (st := top 28) l__law_price q__law_price k__law_price).binds fun _ _ _ _ _ _ us hl => match us, hl with | [_, _], _ => rfl, PySem.W.mg_of X G a__law_price⟩
  let d__law_asked : Dv K mg "_law_asked" (top 29) ["cell", "orders", "plan"] := ⟨f__law_asked, _, fun_mk (st := top 29) l__law_asked q__law_asked k__law_asked, (fun_mk (st := top 29) l__law_asked q__law_asked k__law_asked).binds fun _ _ _ _ _ _ us hl => match us, hl with | [_, _, _], _ => rfl, PySem.W.mg_of X G a__law_asked⟩
  let d__law_order : Dv K mg "_law_order" (top 30) ["cell", "name", "side", "plan"] := ⟨f__law_order, _, fun_mk (st := top 30) l__law_order q__law_order k__law_order, (fun_mk (st := top 30) l__law_order q__law_order k__law_order).binds fun _ _ _ _ _ _ us hl => match us, hl with | [_, _, _, _], _ => rfl, PySem.W.mg_of X G a__law_order⟩
  let d__law_ahead : Dv K mg "_law_ahead" (top 31) ["side", "price", "other"] := ⟨f__law_ahead, _, fun_mk (st := top 31) l__law_ahead q__law_ahead k__law_ahead, (fun_mk (st := top 31) l__law_ahead q__law_ahead k__law_ahead).binds fun _ _ _ _ _ _ us hl => match us, hl with | [_, _, _], _ => rfl, PySem.W.mg_of X G a__law_ahead⟩
  let d__law_lines : Dv K mg "_law_lines" (top 32) ["script"] := ⟨f__law_lines, _, fun_mk (st := top 32) l__law_lines q__law_lines k__law_lines, (fun_mk (st := top 32) l__law_lines q__law_lines k__law_lines).binds fun _ _ _ _ _ _ us hl => match us, hl with | [_], _ => rfl, PySem.W.mg_of X G a__law_lines⟩
  let d__law_orders : Dv K mg "_law_orders" (top 33) ["found"] := ⟨f__law_orders, _, fun_mk (st := top 33) l__law_orders q__law_orders k__law_orders, (fun_mk (st := top 33) l__law_orders q__law_orders k__law_orders).binds fun _ _ _ _ _ _ us hl => match us, hl with | [_], _ => rfl, PySem.W.mg_of X G a__law_orders⟩
  let d__law_told : Dv K mg "_law_told" (top 34) ["found"] := ⟨f__law_told, _, fun_mk (st := top 34) l__law_told q__law_told k__law_told, (fun_mk (st := top 34) l__law_told q__law_told k__law_told).binds fun _ _ _ _ _ _ us hl => match us, hl with | [_], _ => rfl, PySem.W.mg_of X G a__law_told⟩
  let d__law_parted : Dv K mg "_law_parted" (top 35) ["line", "name", "other", "cell"] := ⟨f__law_parted, _, fun_mk (st := top 35) l__law_parted q__law_parted k__law_parted, (fun_mk (st := top 35) l__law_parted q__law_parted k__law_parted).binds fun _ _ _ _ _ _ us hl => match us, hl with | [_, _, _, _], _ => rfl, PySem.W.mg_of X G a__law_parted⟩
  let d__law_pairs : Dv K mg "_law_pairs" (top 36) ["trades", "name", "other"] := ⟨f__law_pairs, _, fun_mk (st := top 36) l__law_pairs q__law_pairs k__law_pairs, (fun_mk (st := top 36) l__law_pairs q__law_pairs k__law_pairs).binds fun _ _ _ _ _ _ us hl => match us, hl with | [_, _, _], _ => rfl, PySem.W.mg_of X G a__law_pairs⟩
  let d__law_rest : Dv K mg "_law_rest" (top 37) ["line", "names"] := ⟨f__law_rest, _, fun_mk (st := top 37) l__law_rest q__law_rest k__law_rest, (fun_mk (st := top 37) l__law_rest q__law_rest k__law_rest).binds fun _ _ _ _ _ _ us hl => match us, hl with | [_, _], _ => rfl, PySem.W.mg_of X G a__law_rest⟩
  let d__law_left : Dv K mg "_law_left" (top 38) ["line", "names"] := ⟨f__law_left, _, fun_mk (st := top 38) l__law_left q__law_left k__law_left, (fun_mk (st := top 38) l__law_left q__law_left k__law_left).binds fun _ _ _ _ _ _ us hl => match us, hl with | [_, _], _ => rfl, PySem.W.mg_of X G a__law_left⟩
  let d_law : Dv K mg "law" (top 39) ["script"] := ⟨_, _, fun_mk (st := top 39) l_law q_law k_law, (fun_mk (st := top 39) l_law q_law k_law).binds fun _ _ _ _ _ _ us hl => match us, hl with | [_], _ => rfl, PySem.W.mg_of X G a_law⟩
  refine ⟨cT, d_law.fd, t_C, fun s v => .of_eq rfl, fun base _ _ hB => ?_⟩
  have G_ahead := ok_ahead (P := l.prog) (w := w) (base := base) d_ahead B C R 
  have G_allows := ok_allows (P := l.prog) (w := w) (base := base) d_allows B C R d_ahead G_ahead
  have G_shown_anew := ok_shown_anew (P := l.prog) (w := w) (base := base) d_shown_anew B C R 
  have G_with_parts := ok_with_parts (P := l.prog) (w := w) (base := base) d_with_parts B C R 
  have G_fresh := ok_fresh (P := l.prog) (w := w) (base := base) d_fresh B C R d_with_parts G_with_parts d_shown_anew G_shown_anew
  have G_allowing := ok_allowing (P := l.prog) (w := w) (base := base) d_allowing B C R d_allows G_allows
  have G_wanted := ok_wanted (P := l.prog) (w := w) (base := base) d_wanted B C R d_allowing G_allowing
  have G_offered := ok_offered (P := l.prog) (w := w) (base := base) d_offered B C R d_allowing G_allowing
  have G_volume := ok_volume (P := l.prog) (w := w) (base := base) d_volume B C R d_offered G_offered d_wanted G_wanted
  have G_surplus := ok_surplus (P := l.prog) (w := w) (base := base) d_surplus B C R d_wanted G_wanted d_offered G_offered
  have G_limits := ok_limits (P := l.prog) (w := w) (base := base) d_limits B C R 
  have G_rank_of := ok_rank_of (P := l.prog) (w := w) (base := base) d_rank_of B C R d_surplus G_surplus d_volume G_volume
  have G_call_price := ok_call_price (P := l.prog) (w := w) (base := base) (T := T) d_call_price B C R d_rank_of G_rank_of d_limits G_limits d_volume G_volume rfl t_C hB
  have G_traded := ok_traded (P := l.prog) (w := w) (base := base) d_traded B C R d_fresh G_fresh
  have G_called := ok_called (P := l.prog) (w := w) (base := base) (T := T) d_called B C R d_call_price G_call_price d_volume G_volume d_traded G_traded
  have G__law_cell_at := ok__law_cell_at (P := l.prog) (w := w) (base := base) d__law_cell_at B C R 
  have G__law_whole := ok__law_whole (P := l.prog) (w := w) (base := base) d__law_whole B C R 
  have G__law_signs := ok__law_signs (P := l.prog) (w := w) (base := base) d__law_signs B C R 
  have G__law_name := ok__law_name (P := l.prog) (w := w) (base := base) d__law_name B C R d__law_signs G__law_signs
  have G__law_price := ok__law_price (P := l.prog) (w := w) (base := base) d__law_price B C R 
  have G__law_asked := ok__law_asked (P := l.prog) (w := w) (base := base) d__law_asked B C R d__law_price G__law_price
  have G__law_order := ok__law_order (P := l.prog) (w := w) (base := base) d__law_order B C R d__law_name G__law_name d__law_price G__law_price
  have G__law_ahead := ok__law_ahead (P := l.prog) (w := w) (base := base) d__law_ahead B C R 
  have G__law_lines := ok__law_lines (P := l.prog) (w := w) (base := base) d__law_lines B C R d__law_cell_at G__law_cell_at d__law_name G__law_name d__law_order G__law_order d__law_ahead G__law_ahead
  have G__law_orders := ok__law_orders (P := l.prog) (w := w) (base := base) d__law_orders B C R d__law_whole G__law_whole
  have G__law_told := ok__law_told (P := l.prog) (w := w) (base := base) d__law_told B C R d__law_whole G__law_whole d__law_orders G__law_orders
  have G__law_parted := ok__law_parted (P := l.prog) (w := w) (base := base) d__law_parted B C R 
  have G__law_pairs := ok__law_pairs (P := l.prog) (w := w) (base := base) d__law_pairs B C R 
  have G__law_rest := ok__law_rest (P := l.prog) (w := w) (base := base) d__law_rest B C R 
  have G__law_left := ok__law_left (P := l.prog) (w := w) (base := base) d__law_left B C R 
  exact ok_law d_law B C R d__law_lines G__law_lines d__law_cell_at G__law_cell_at d__law_asked G__law_asked d__law_name G__law_name d_called G_called d__law_parted G__law_parted d__law_told G__law_told d__law_pairs G__law_pairs d__law_rest G__law_rest d__law_left G__law_left
theorem walk {l : PySem.W.OpenLaw} {q : Program} {loose : List Str} {XP : (Str → Option Value) → Heap → Prop} {YP : World → Heap → Prop} {d : DefRec} {K : Params → PySem.W.Frag} {T : Addr} (hn : l.most = some 63) (hdf : d.params.defaults = [])
    (hY : ∀ (w : World) (h : Heap), YP w h → (K w.params).In h) (hYT : ∀ (w : World) (h : Heap), YP w h → h.get? T = some (PySem.W.tabObj #[])) (hKT : ∀ w : World, (K w.params).lookup T = none)
    (F : ∀ (w : World) (mg : Str → Option Value) (fa : Addr) (h : Heap), (K w.params).In h → h.Ns mainGlobals mg → mg d.name = some (.ref fa) →
      ∃ (c : Addr) (fd : FuncData), PySem.W.codeHdIn (K w.params) c T = true ∧ (∀ (s : Shared) (u : Value), BindsTo s fd ⟨[u], []⟩ [("script", u)]) ∧ ∀ base : Heap, (K w.params).In base → base.Ns mainGlobals mg → BM mg base → FnOk l.prog w (K w.params) mg base CX0 11 fa fd ["script"] (sp_law (K w.params) T)) :
    PySem.W.WalkO q loose XP YP l.row.toRowW d [] (fun f vs => PySem.call f vs) :=
  L2.walk_ofT (n := 63) (k := 11) (x := "script") (CX := CX0) (sp := fun K T => sp_law K T) hn (by decide) hdf ⟨rfl, by decide, by decide⟩ hY hYT hKT F (fun _ _ a ns hl hT hS => ⟨a, ns, rfl, hS, hl, hT, fun _ => rfl⟩) fun _ _ _ _ z => z
end K31
open PySem PySem.W PyProof.Rows
set_option maxRecDepth 100000 in
set_option maxHeartbeats 0 in
theorem PySem.Challenge.cw_bellbook_k31_whole_one_in_two_parts_holds : PySem.Challenge.rw_bellbook_k31_whole_one_in_two_parts.Holds := by
  w_on; o_law; k_head; (case hw => w_witness2)
  k_fill
  refine K31.walk (l := PySem.Challenge.rw_bellbook_k31_whole_one_in_two_parts) rfl rfl (fun w h Y => PySem.W.km_in_of Y) (fun w h Y => PySem.W.km_tabs_of Y _ List.mem_cons_self) (fun w => ?kt) ?F
  (case kt => first | k_is | rfl)
  case F =>
    intro w mg fa h KX G hmg
    refine' K31.all_mk KX G hmg ?a_ahead ?l_ahead ?q_ahead ?k_ahead ?a_allows ?l_allows ?q_allows ?k_allows ?a_shown_anew ?l_shown_anew ?q_shown_anew ?k_shown_anew ?a_with_parts ?l_with_parts ?q_with_parts ?k_with_parts ?a_fresh ?l_fresh ?q_fresh ?k_fresh ?a_allowing ?l_allowing ?q_allowing ?k_allowing ?a_wanted ?l_wanted ?q_wanted ?k_wanted ?a_offered ?l_offered ?q_offered ?k_offered ?a_volume ?l_volume ?q_volume ?k_volume ?a_surplus ?l_surplus ?q_surplus ?k_surplus ?a_limits ?l_limits ?q_limits ?k_limits ?a_rank_of ?l_rank_of ?q_rank_of ?k_rank_of ?a_call_price ?l_call_price ?q_call_price ?k_call_price ?t_C ?a_traded ?l_traded ?q_traded ?k_traded ?a_called ?l_called ?q_called ?k_called ?a__law_cell_at ?l__law_cell_at ?q__law_cell_at ?k__law_cell_at ?a__law_whole ?l__law_whole ?q__law_whole ?k__law_whole ?a__law_signs ?l__law_signs ?q__law_signs ?k__law_signs ?a__law_name ?l__law_name ?q__law_name ?k__law_name ?a__law_price ?l__law_price ?q__law_price ?k__law_price ?a__law_asked ?l__law_asked ?q__law_asked ?k__law_asked ?a__law_order ?l__law_order ?q__law_order ?k__law_order ?a__law_ahead ?l__law_ahead ?q__law_ahead ?k__law_ahead ?a__law_lines ?l__law_lines ?q__law_lines ?k__law_lines ?a__law_orders ?l__law_orders ?q__law_orders ?k__law_orders ?a__law_told ?l__law_told ?q__law_told ?k__law_told ?a__law_parted ?l__law_parted ?q__law_parted ?k__law_parted ?a__law_pairs ?l__law_pairs ?q__law_pairs ?k__law_pairs ?a__law_rest ?l__law_rest ?q__law_rest ?k__law_rest ?a__law_left ?l__law_left ?q__law_left ?k__law_left ?a_law ?l_law ?q_law ?k_law ?z_abs ?z_bool ?z_int ?z_isinstance ?z_len ?z_list ?z_max ?z_min ?z_range ?z_set ?z_sorted ?z_str ?z_sum ?z_tuple ?u_LEFT ?u_NAME ?u_PEAK ?u_PRICE ?u_SIDE
    (case a_ahead => k_is)
    (case l_ahead => k_is)
    (case q_ahead => k_is)
    (case k_ahead => k_is)
    (case a_allows => k_is)
    (case l_allows => k_is)
    (case q_allows => k_is)
    (case k_allows => k_is)
    (case a_shown_anew => k_is)
    (case l_shown_anew => k_is)
    (case q_shown_anew => k_is)
    (case k_shown_anew => k_is)
    (case a_with_parts => k_is)
    (case l_with_parts => k_is)
    (case q_with_parts => k_is)
    (case k_with_parts => k_is)
    (case a_fresh => k_is)
    (case l_fresh => k_is)
    (case q_fresh => k_is)
    (case k_fresh => k_is)
    (case a_allowing => k_is)
    (case l_allowing => k_is)
    (case q_allowing => k_is)
    (case k_allowing => k_is)
    (case a_wanted => k_is)
    (case l_wanted => k_is)
    (case q_wanted => k_is)
    (case k_wanted => k_is)
    (case a_offered => k_is)
    (case l_offered => k_is)
    (case q_offered => k_is)
    (case k_offered => k_is)
    (case a_volume => k_is)
    (case l_volume => k_is)
    (case q_volume => k_is)
    (case k_volume => k_is)
    (case a_surplus => k_is)
    (case l_surplus => k_is)
    (case q_surplus => k_is)
    (case k_surplus => k_is)
    (case a_limits => k_is)
    (case l_limits => k_is)
    (case q_limits => k_is)
    (case k_limits => k_is)
    (case a_rank_of => k_is)
    (case l_rank_of => k_is)
    (case q_rank_of => k_is)
    (case k_rank_of => k_is)
    (case a_call_price => k_is)
    (case l_call_price => k_is)
    (case q_call_price => k_is)
    (case k_call_price => k_is)
    (case t_C => first | kernel_rfl | rfl | decide +kernel)
    (case a_traded => k_is)
    (case l_traded => k_is)
    (case q_traded => k_is)
    (case k_traded => k_is)
    (case a_called => k_is)
    (case l_called => k_is)
    (case q_called => k_is)
    (case k_called => k_is)
    (case a__law_cell_at => k_is)
    (case l__law_cell_at => k_is)
    (case q__law_cell_at => k_is)
    (case k__law_cell_at => k_is)
    (case a__law_whole => k_is)
    (case l__law_whole => k_is)
    (case q__law_whole => k_is)
    (case k__law_whole => k_is)
    (case a__law_signs => k_is)
    (case l__law_signs => k_is)
    (case q__law_signs => k_is)
    (case k__law_signs => k_is)
    (case a__law_name => k_is)
    (case l__law_name => k_is)
    (case q__law_name => k_is)
    (case k__law_name => k_is)
    (case a__law_price => k_is)
    (case l__law_price => k_is)
    (case q__law_price => k_is)
    (case k__law_price => k_is)
    (case a__law_asked => k_is)
    (case l__law_asked => k_is)
    (case q__law_asked => k_is)
    (case k__law_asked => k_is)
    (case a__law_order => k_is)
    (case l__law_order => k_is)
    (case q__law_order => k_is)
    (case k__law_order => k_is)
    (case a__law_ahead => k_is)
    (case l__law_ahead => k_is)
    (case q__law_ahead => k_is)
    (case k__law_ahead => k_is)
    (case a__law_lines => k_is)
    (case l__law_lines => k_is)
    (case q__law_lines => k_is)
    (case k__law_lines => k_is)
    (case a__law_orders => k_is)
    (case l__law_orders => k_is)
    (case q__law_orders => k_is)
    (case k__law_orders => k_is)
    (case a__law_told => k_is)
    (case l__law_told => k_is)
    (case q__law_told => k_is)
    (case k__law_told => k_is)
    (case a__law_parted => k_is)
    (case l__law_parted => k_is)
    (case q__law_parted => k_is)
    (case k__law_parted => k_is)
    (case a__law_pairs => k_is)
    (case l__law_pairs => k_is)
    (case q__law_pairs => k_is)
    (case k__law_pairs => k_is)
    (case a__law_rest => k_is)
    (case l__law_rest => k_is)
    (case q__law_rest => k_is)
    (case k__law_rest => k_is)
    (case a__law_left => k_is)
    (case l__law_left => k_is)
    (case q__law_left => k_is)
    (case k__law_left => k_is)
    (case a_law => k_is)
    (case l_law => k_is)
    (case q_law => k_is)
    (case k_law => k_is)
    (case z_abs => k_is)
    (case z_bool => k_is)
    (case z_int => k_is)
    (case z_isinstance => k_is)
    (case z_len => k_is)
    (case z_list => k_is)
    (case z_max => k_is)
    (case z_min => k_is)
    (case z_range => k_is)
    (case z_set => k_is)
    (case z_sorted => k_is)
    (case z_str => k_is)
    (case z_sum => k_is)
    (case z_tuple => k_is)
    (case u_LEFT => k_is)
    (case u_NAME => k_is)
    (case u_PEAK => k_is)
    (case u_PRICE => k_is)
    (case u_SIDE => k_is)

