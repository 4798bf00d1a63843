import PyProof.Rows.All
import Wide.All
import OpenK.AllK
import Wide.FinOn
import Lean
import PyProof.EqAt
import PyProof.EqKinds
import PyProof.TupleCall
import KE.KIsAll
import PyProof.ExcArgsOwn
import PyProof.ExcAttrAll.ValueError
import KE.KTryMore
import PyProof.NeKinds
import PyProof.Rows.CallKwBuiltin
import KE.KUnpack
import PyProof.EnumMake
import PyProof.WalksEnum
import PyProof.EnumFor
import PyProof.Rows.EnumRows
import PySem.Challenge.RW_bellbook_k18_sums_of_a_meeting
set_option Elab.async false
set_option linter.all false
set_option maxRecDepth 100000
/-! THE HAND LAYER, for ints, bools, texts, own classes, LISTS and tuples (index, slices, in, append, pop ..), calls, loops. Paste it whole ahead of your own text; what your proof does not reach may be deleted. -/
namespace L2
open PySem PySem.Spec PyProof.Rows

/-- a key: an int or a str -/
abbrev Key := Sum Int Str
def keyIs : Key → Value → Bool
  | .inl k, v => Value.isInt k v
  | .inr x, v => Value.isStrOf x v
def keyH (w : World) : Key → Int
  | .inl k => hashInt k
  | .inr x => hashStr w x
theorem keyIs_shape : ∀ {k : Key} {v : Value}, keyIs k v = true → (∃ i t, k = Sum.inl i ∧ v = Value.int i t) ∨ (∃ x t, k = Sum.inr x ∧ v = Value.str x t)
  | .inl i, v, h => by
    obtain ⟨t, e⟩ := Value.isInt_shape (k := i) (v := v) h
    exact .inl ⟨i, t, rfl, e⟩
  | .inr x, v, h => by
    obtain ⟨t, e⟩ := Value.isStrOf_shape (x := x) (v := v) h
    exact .inr ⟨x, t, rfl, e⟩
theorem keyIs_int (i : Int) (t : Tok) : keyIs (.inl i) (.int i t) = true := by simp [keyIs, Value.isInt]
theorem keyIs_str (x : Str) (t : Tok) : keyIs (.inr x) (.str x t) = true := by simp [keyIs, Value.isStrOf]
theorem key_ll (a b : Int) : decide ((Sum.inl a : Key) = Sum.inl b) = (a == b) := by
  by_cases e : a = b
  · subst e; simp
  · have h : ¬ (Sum.inl a : Key) = Sum.inl b := fun q => e (Sum.inl.inj q)
    rw [decide_eq_false h]
    exact (beq_eq_false_iff_ne.mpr e).symm
theorem key_rr (a b : Str) : decide ((Sum.inr a : Key) = Sum.inr b) = decide (a = b) := by
  by_cases e : a = b
  · subst e; simp
  · have h : ¬ (Sum.inr a : Key) = Sum.inr b := fun q => e (Sum.inr.inj q)
    rw [decide_eq_false h, decide_eq_false e]
theorem key_lr (a : Int) (b : Str) : decide ((Sum.inl a : Key) = Sum.inr b) = false := decide_eq_false (fun q => nomatch q)
theorem key_rl (a : Str) (b : Int) : decide ((Sum.inr a : Key) = Sum.inl b) = false := decide_eq_false (fun q => nomatch q)

def mixKind (prog : Program) (w : World) : PySem.KeyKind prog w Key where
  is := keyIs
  hash := keyH w
  inj := fun v a b ha hb => by
    rcases keyIs_shape ha with ⟨i, t, rfl, rfl⟩ | ⟨x, t, rfl, rfl⟩
    · rcases keyIs_shape hb with ⟨j, u, rfl, e⟩ | ⟨y, u, rfl, e⟩
      · injection e with e1 _; rw [e1]
      · exact nomatch e
    · rcases keyIs_shape hb with ⟨j, u, rfl, e⟩ | ⟨y, u, rfl, e⟩
      · exact nomatch e
      · injection e with e1 _; rw [e1]
  byValue := fun k v h => by
    rcases keyIs_shape h with ⟨i, t, rfl, rfl⟩ | ⟨x, t, rfl, rfl⟩ <;> rfl
  pyHash := fun hv h => by
    rcases keyIs_shape hv with ⟨i, t, rfl, rfl⟩ | ⟨x, t, rfl, rfl⟩
    · exact wpAny_pyHash_int h
    · exact wpAny_pyHash_str h
  eqBool := fun hu hv h => by
    rcases keyIs_shape hu with ⟨i, t, rfl, rfl⟩ | ⟨x, t, rfl, rfl⟩
    · rcases keyIs_shape hv with ⟨j, u, rfl, rfl⟩ | ⟨y, u, rfl, rfl⟩
      · rw [key_ll] at h; exact wpAny_eqBool_int h
      · rw [key_lr] at h; exact SeqAt.EqAt.int_str i t y u _ _ _ _ h
    · rcases keyIs_shape hv with ⟨j, u, rfl, rfl⟩ | ⟨y, u, rfl, rfl⟩
      · rw [key_rl] at h; exact SeqAt.EqAt.str_int x t j u _ _ _ _ h
      · rw [key_rr] at h; exact wpAny_eqBool_str h
  «strs» := fun k x t v h => by
    rcases keyIs_shape h with ⟨i, u, rfl, e⟩ | ⟨y, u, rfl, e⟩
    · exact nomatch e
    · injection e with e1 _
      subst e1
      cases v <;> rfl

theorem mixKind_int (prog : Program) (w : World) (i : Int) (t : Tok) : (mixKind prog w).is (.inl i) (.int i t) = true := keyIs_int i t
theorem mixKind_str (prog : Program) (w : World) (x : Str) (t : Tok) : (mixKind prog w).is (.inr x) (.str x t) = true := keyIs_str x t
end L2

namespace L2
open PySem PySem.Spec PyProof.Rows

/-- a value, without the heap -/
inductive V where
  | non | bl (b : Bool) | int (i : Int) | str (x : Str) | byt (b : Array UInt8) | flt (b : UInt64) | ref (a : Addr) | ty (n : String)
  deriving DecidableEq

def RelV : V → Value → Prop
  | .non, u => u = Value.none
  | .bl b, u => u = Value.bool b
  | .int i, u => ∃ t, u = Value.int i t
  | .str x, u => ∃ t, u = Value.str x t
  | .byt b, u => ∃ t, u = Value.bytes b t
  | .flt b, u => ∃ t, u = Value.float b t
  | .ref a, u => u = Value.ref a
  | .ty n, u => u = Value.type n

abbrev Vals : List V → List Value → Prop := Paired RelV
theorem Vals.length {xs : List V} {us : List Value} (r : Vals xs us) : xs.length = us.length := Paired.length r
theorem Vals.get : ∀ {xs : List V} {us : List Value} {i : Nat} {x : V}, Vals xs us → xs[i]? = some x → ∃ u, us[i]? = some u ∧ RelV x u
  | _, _, _, _, .nil, e => by simp at e
  | _, _, 0, _, .cons r _, e => by simp at e; subst e; exact ⟨_, rfl, r⟩
  | _, _, i + 1, x, .cons _ t, e => by
    obtain ⟨u, h1, h2⟩ := Vals.get (i := i) (x := x) t (by simpa using e)
    exact ⟨u, by simpa using h1, h2⟩
theorem Vals.set {x : V} {u : Value} (r : RelV x u) : ∀ {xs : List V} {us : List Value} (i : Nat), Vals xs us → Vals (xs.set i x) (us.set i u)
  | _, _, _, .nil => .nil
  | _, _, 0, .cons _ t => .cons r t
  | _, _, i + 1, .cons q t => .cons q (Vals.set r i t)
theorem Vals.append : ∀ {xs ys : List V} {us ws : List Value}, Vals xs us → Vals ys ws → Vals (xs ++ ys) (us ++ ws)
  | _, _, _, _, .nil, s => s
  | _, _, _, _, .cons r t, s => .cons r (Vals.append t s)
theorem Vals.take : ∀ {xs : List V} {us : List Value} (n : Nat), Vals xs us → Vals (xs.take n) (us.take n)
  | _, _, 0, _ => .nil
  | _, _, _ + 1, .nil => .nil
  | _, _, n + 1, .cons r t => .cons r (Vals.take n t)
theorem Vals.drop : ∀ {xs : List V} {us : List Value} (n : Nat), Vals xs us → Vals (xs.drop n) (us.drop n)
  | _, _, 0, r => r
  | _, _, _ + 1, .nil => .nil
  | _, _, n + 1, .cons _ t => Vals.drop n t
def RelO : Option V → Option Value → Prop
  | some v, some u => RelV v u
  | none, none => True
  | _, _ => False
def KV {κ : Type} : List (κ × V) → List (κ × Value) → Prop := Paired fun (p : κ × V) (q : κ × Value) => p.1 = q.1 ∧ RelV p.2 q.2

/-- a key of a dict (00_mix): an int or a text -/
def kV : Key → V
  | .inl i => .int i
  | .inr x => .str x

/-- what stands at a tracked address -/
inductive HO where
  /-- a list -/
  | lst (xs : List V)
  /-- a tuple (never changes) -/
  | tup (xs : List V)
  /-- a dict whose keys are ints and texts; one whose keys are tuples of ints and texts (the empty one is both) -/
  | dK (kvs : List (Key × V)) | dT (kvs : List (List Key × V))
  /-- a set of ints: its members, its size -/
  | set (S : Int → Bool) (n : Nat)
  /-- an instance of the class at C, its dict at dx, its attributes -/
  | ins (C dx : Addr) (fs : List (Str × V))
  /-- the dict of the instance at x -/
  | own (x : Addr)
  /-- the dict of an exception -/
  | xd (fs : List (Str × V))
  /-- a bound method, f of x -/
  | met (f x : Addr)
  /-- a range object lo, lo + 1, .. below hi -/
  | rng (lo hi : Int)
  /-- a thing that is known to the object (the script; a dict while a loop walks it): read, never written while it is so -/
  | frz (o : Obj) (u : HO)
  /-- a code object's table -/
  | tbl (ps : Array Value)
  /-- any other thing, by what is true of its one object (a def of one's own: SetO a S n := HO.ext fun h => ..) -/
  | ext (φ : Heap → Prop)

abbrev Hp := Addr → Option HO
def upd (H : Hp) (a : Addr) (o : HO) : Hp := fun b => if b = a then some o else H b
theorem upd_same {H : Hp} {a : Addr} {o : HO} : upd H a o a = some o := by unfold upd; rw [if_pos rfl]
theorem upd_ne {H : Hp} {a b : Addr} {o : HO} (h : b ≠ a) : upd H a o b = H b := by unfold upd; rw [if_neg h]
/-- two objects of different content stand apart -/
theorem ne_of {H : Hp} {a b : Addr} {o u : HO} (h : H a = some o) (h' : H b = some u) (d : o ≠ u) : a ≠ b := by
  intro e; subst e; rw [h] at h'; exact d (Option.some.inj h')
theorem ne_of_none {H : Hp} {a b : Addr} {o : HO} (h : H a = some o) (h' : H b = none) : a ≠ b := by
  intro e; subst e; rw [h] at h'; cases h'

section
variable (P : Program) (w : World)
def ObjOk (H : Hp) (h : Heap) (a : Addr) : HO → Prop
  | .lst xs => xs.length ≤ sizeLine ∧ ∃ (its : List Value) (n : Nat), Vals xs its ∧ h.get? a = some { cls := .type "list", data := .seq its.toArray n }
  | .tup xs => xs.length ≤ sizeLine ∧ ∃ its : List Value, Vals xs its ∧ IsTup h a its.toArray
  | .dK kvs => kvs.length ≤ sizeLine ∧ (a == sysModules) = false ∧ ∃ vs, KV kvs vs ∧ h.DictOf (mixKind P w) a vs
  | .dT kvs => kvs.length ≤ sizeLine ∧ (a == sysModules) = false ∧ ∃ xs : List (List Key × Addr × Value),
      Paired (fun (p : List Key × V) (q : List Key × Addr × Value) => p.1 = q.1 ∧ H q.2.1 = some (.tup (p.1.map kV)) ∧ RelV p.2 q.2.2) kvs xs ∧
      ∃ o es ep, h.get? a = some o ∧ o.ExactDict ∧ o.data = .dict es ep ∧ es.toList = xs.map (entryOfKey (tupleKind (mixKind P w))) ∧ (xs.map (·.1)).Nodup
  | .set S n => h.SetOf (intKind P w) a S n
  | .ins C dx fs => H dx = some (.own a) ∧ fs.length ≤ 1000 ∧ dx ≠ a ∧ h.get? a = some (PySem.W.instObj C dx) ∧
      ∃ mA, h.Ns1 dx mA ∧ (∀ f, RelO (fs.lookup f) (mA f)) ∧ PySem.Within mA (fs.map (·.1))
  | .own _ => ∃ o, h.get? a = some o
  | .xd fs => ∃ mA, h.Ns1 a mA ∧ ∀ f, RelO (fs.lookup f) (mA f)
  | .rng lo hi => ∃ t u v, h.get? a = some { cls := .type "range", data := .fields #[.int lo t, .int hi u, .int 1 v] }
  | .frz o u => h.get? a = some o ∧ ObjOk H h a u
  | .tbl ps => h.get? a = some { cls := .none, data := .fields ps }
  | .met f x => h.get? a = some (PySem.W.methodObj (.ref f) (.ref x))
  | .ext φ => φ h ∧ (∃ o, h.get? a = some o) ∧ ∀ h1 h2 : Heap, φ h1 → (∀ o, h1.get? a = some o → h2.get? a = some o) → φ h2
/-- the abstract heap is held -/
def HOk (H : Hp) (h : Heap) : Prop := ∀ a o, H a = some o → ObjOk P w H h a o
end

section
variable {P : Program} {w : World} {H H' : Hp} {h h' : Heap} {a : Addr} {o : HO}
theorem ObjOk.lt (x : ObjOk P w H h a o) : a < h.objs.size := by
  cases o with
  | lst xs => obtain ⟨_, _, _, _, e⟩ := x; exact Heap.lt_size e
  | tup xs => obtain ⟨_, _, _, p⟩ := x; exact p.lt
  | dK kvs => obtain ⟨_, _, _, _, o, _, _, e, _⟩ := x; exact Heap.lt_size e
  | dT kvs => obtain ⟨_, _, _, _, o, _, _, e, _⟩ := x; exact Heap.lt_size e
  | set S n => obtain ⟨o, _, _, _, e, _⟩ := x; exact Heap.lt_size e
  | ins C dx fs => obtain ⟨_, _, _, e, _⟩ := x; exact Heap.lt_size e
  | own y => obtain ⟨_, e⟩ := x; exact Heap.lt_size e
  | xd fs => obtain ⟨_, ⟨_, _, _, e, _⟩, _⟩ := x; exact Heap.lt_size e
  | rng lo hi => obtain ⟨_, _, _, e⟩ := x; exact Heap.lt_size e
  | frz ob u => obtain ⟨e, _⟩ := x; exact Heap.lt_size e
  | tbl ps => exact Heap.lt_size (show h.get? a = some _ from x)
  | met f y => exact Heap.lt_size (show h.get? a = some _ from x)
  | ext φ => obtain ⟨_, ⟨_, e⟩, _⟩ := x; exact Heap.lt_size e
theorem Paired.mapP {α β : Type} {F G : α → β → Prop} : ∀ {l₁ : List α} {l₂ : List β}, Paired F l₁ l₂ → (∀ a b, F a b → G a b) → Paired G l₁ l₂
  | _, _, .nil, _ => .nil
  | _, _, .cons r t, f => .cons (f _ _ r) (Paired.mapP t f)
/-- what an object's description leans on: its own object, its own dict, the tuples -/
theorem ObjOk.stay (x : ObjOk P w H h a o) (k : ∀ b u, (b = a ∨ H b = some (.own a)) → h.get? b = some u → h'.get? b = some u)
    (ho : ∀ b, H b = some (.own a) → H' b = some (.own a)) (ht : ∀ b xs, H b = some (.tup xs) → H' b = some (.tup xs)) : ObjOk P w H' h' a o := by
  induction o with
  | lst xs => obtain ⟨z, its, n, r, e⟩ := x; exact ⟨z, its, n, r, k _ _ (.inl rfl) e⟩
  | tup xs => obtain ⟨z, its, r, ob, e, c⟩ := x; exact ⟨z, its, r, ob, k _ _ (.inl rfl) e, c⟩
  | dK kvs => obtain ⟨z, y, vs, r, ob, es, ep, e, c⟩ := x; exact ⟨z, y, vs, r, ob, es, ep, k _ _ (.inl rfl) e, c⟩
  | dT kvs =>
    obtain ⟨z, y, xs, r, ob, es, ep, e, c⟩ := x
    exact ⟨z, y, xs, Paired.mapP r fun p q z => ⟨z.1, ht _ _ z.2.1, z.2.2⟩, ob, es, ep, k _ _ (.inl rfl) e, c⟩
  | set S n => obtain ⟨ob, es, ep, t, e, c⟩ := x; exact ⟨ob, es, ep, t, k _ _ (.inl rfl) e, c⟩
  | ins C dx fs =>
    obtain ⟨d, z, ne, e, mA, ⟨od, es, ep, e2, c⟩, r⟩ := x
    exact ⟨ho _ d, z, ne, k _ _ (.inl rfl) e, mA, ⟨od, es, ep, k _ _ (.inr d) e2, c⟩, r⟩
  | own y => obtain ⟨ob, e⟩ := x; exact ⟨ob, k _ _ (.inl rfl) e⟩
  | xd fs => obtain ⟨mA, ⟨od, es, ep, e, c⟩, r⟩ := x; exact ⟨mA, ⟨od, es, ep, k _ _ (.inl rfl) e, c⟩, r⟩
  | rng lo hi => obtain ⟨t, u, v, e⟩ := x; exact ⟨t, u, v, k _ _ (.inl rfl) e⟩
  | frz ob u ih => obtain ⟨e, q⟩ := x; exact ⟨k _ _ (.inl rfl) e, ih q⟩
  | tbl ps =>
    have e : h.get? a = some { cls := .none, data := .fields ps } := x
    show h'.get? a = some { cls := .none, data := .fields ps }
    exact k a _ (.inl rfl) e
  | met f y =>
    have e : h.get? a = some (PySem.W.methodObj (.ref f) (.ref y)) := x
    show h'.get? a = some (PySem.W.methodObj (.ref f) (.ref y))
    exact k a _ (.inl rfl) e
  | ext φ => obtain ⟨p, ⟨o, e⟩, st⟩ := x; exact ⟨st _ _ p fun o q => k _ _ (.inl rfl) q, ⟨o, k _ _ (.inl rfl) e⟩, st⟩
theorem HOk.lt (x : HOk P w H h) (e : H a = some o) : a < h.objs.size := (x a o e).lt
theorem HOk.fresh (x : HOk P w H h) (e : h.objs.size ≤ a) : H a = none := by
  cases q : H a with
  | none => rfl
  | some u => exact absurd (Nat.lt_of_lt_of_le (x.lt q) e) (Nat.lt_irrefl _)
/-- every object of the heap is kept -/
theorem HOk.kept (x : HOk P w H h) (k : ∀ b u, h.get? b = some u → h'.get? b = some u) : HOk P w H h' := fun a o e =>
  (x a o e).stay (fun b u _ q => k b u q) (fun _ q => q) fun _ _ q => q
/-- a new object is laid and tracked -/
theorem HOk.laid (x : HOk P w H h) (k : ∀ b u, h.get? b = some u → h'.get? b = some u) (hp : h.objs.size ≤ a) (new : ObjOk P w (upd H a o) h' a o) : HOk P w (upd H a o) h' := fun b u e => by
  have hn := x.fresh hp
  by_cases hb : b = a
  · subst hb; rw [upd_same] at e; cases e; exact new
  · rw [upd_ne hb] at e
    exact (x b u e).stay (fun c v _ q => k c v q) (fun c q => by rw [upd_ne (ne_of_none q hn)]; exact q) fun c xs q => by rw [upd_ne (ne_of_none q hn)]; exact q
end

/-- what may be read as u: it is u, or a known u -/
def Rd (H : Hp) (a : Addr) (u : HO) : Prop := H a = some u ∨ ∃ o, H a = some (.frz o u)
theorem Rd.ok {P : Program} {w : World} {H : Hp} {h : Heap} {a : Addr} {u : HO} (r : Rd H a u) (x : HOk P w H h) : ObjOk P w H h a u := by
  rcases r with r | ⟨o, r⟩
  · exact x a u r
  · obtain ⟨_, q⟩ := x a _ r
    exact q
/-- what may be written -/
def Mut : Option HO → Prop
  | some (.lst _) => True
  | some (.dK _) => True
  | some (.dT _) => True
  | some (.set _ _) => True
  | some (.ins _ _ _) => True
  | some (.ext _) => True
  | _ => False
section
variable {P : Program} {w : World} {H : Hp} {h h' : Heap} {x e : Addr} {o' : HO}
/-- the object at e is changed: x itself, or the dict of the instance x -/
theorem HOk.write (ok : HOk P w H h) (mu : Mut (H x)) (he : e = x ∨ H e = some (.own x)) (k : ∀ b u, b ≠ e → h.get? b = some u → h'.get? b = some u) (heo : ∃ u, h'.get? e = some u)
    (new : ObjOk P w (upd H x o') h' x o') : HOk P w (upd H x o') h' := fun b u q => by
  have nown : ∀ c y, H c = some (.own y) → c ≠ x := fun c y r z => by subst z; rw [r] at mu; exact mu
  have ntup : ∀ c xs, H c = some (.tup xs) → c ≠ x := fun c xs r z => by subst z; rw [r] at mu; exact mu
  by_cases hb : b = x
  · subst hb; rw [upd_same] at q; cases q; exact new
  · rw [upd_ne hb] at q
    by_cases hbe : b = e
    · have q' : H b = some (.own x) := by
        rcases he with z | z
        · exact absurd (hbe.trans z) hb
        · rw [hbe]; exact z
      rw [q] at q'; cases q'
      obtain ⟨v, hv⟩ := heo
      exact ⟨v, by rw [hbe]; exact hv⟩
    · refine (ok b u q).stay (fun c v hc r => k c v ?_ r) (fun c r => by rw [upd_ne (nown c b r)]; exact r) fun c xs r => by rw [upd_ne (ntup c xs r)]; exact r
      rcases hc with rfl | hc
      · exact hbe
      · rintro rfl
        rcases he with z | z
        · exact nown c b hc z
        · rw [hc] at z; cases z; exact hb rfl
end

/-! ### kept unless tracked; of the frames at fs (the callers') the slots may change (an exception that passes writes there); of the records at ex (iterators) nothing is said -/
structure Un (fs ex : List Addr) (H H' : Hp) (h h' : Heap) : Prop where
  keep : ∀ b o, h.get? b = some o → H b = none → b ∉ fs → b ∉ ex → h'.get? b = some o
  slot : ∀ b o, h.get? b = some o → H b = none → b ∈ fs → b ∉ ex → ∃ sl, h'.get? b = some { o with slots := sl }
  free : ∀ b o, h.get? b = some o → H b = none → b ∉ ex → H' b = none
  there : ∀ b o, h.get? b = some o → b ∉ ex → ∃ o', h'.get? b = some o'
  tups : ∀ b xs, H b = some (.tup xs) → H' b = some (.tup xs)
  frzs : ∀ b o u, H b = some (.frz o u) → H' b = some (.frz o u)
  tbls : ∀ b ps, H b = some (.tbl ps) → ∃ more, H' b = some (.tbl (ps ++ more))
section
variable {fs fs' ex ex' : List Addr} {H H1 H2 : Hp} {h h1 h2 h' : Heap} {a x e : Addr} {o : HO}
theorem Un.any (u : Un fs ex H H1 h h1) {b : Addr} {ob : Obj} (q : h.get? b = some ob) (n : H b = none) (hx : b ∉ ex) : ∃ sl, h1.get? b = some { ob with slots := sl } := by
  by_cases hb : b ∈ fs
  · exact u.slot b ob q n hb hx
  · exact ⟨ob.slots, u.keep b ob q n hb hx⟩
theorem Un.kept (k : ∀ b u, h.get? b = some u → h'.get? b = some u) : Un fs ex H H h h' :=
  ⟨fun b ob q _ _ _ => k b ob q, fun b ob q _ _ _ => ⟨ob.slots, k b ob q⟩, fun _ _ _ n _ => n, fun b ob q _ => ⟨ob, k b ob q⟩, fun _ _ q => q, fun _ _ _ q => q, fun _ ps q => ⟨#[], by rw [q]; simp⟩⟩
theorem Un.refl : Un fs ex H H h h := Un.kept fun _ _ q => q
theorem Un.laid (k : ∀ b u, h.get? b = some u → h'.get? b = some u) (hp : h.objs.size ≤ a) (hn : H a = none) : Un fs ex H (upd H a o) h h' where
  keep := fun b u q _ _ _ => k b u q
  slot := fun b u q _ _ _ => ⟨u.slots, k b u q⟩
  free := fun b u q n _ => by rw [upd_ne (Nat.ne_of_lt (Nat.lt_of_lt_of_le (Heap.lt_size q) hp))]; exact n
  there := fun b u q _ => ⟨u, k b u q⟩
  tups := fun b xs q => by rw [upd_ne (ne_of_none q hn)]; exact q
  frzs := fun b u xs q => by rw [upd_ne (ne_of_none q hn)]; exact q
  tbls := fun b ps q => ⟨#[], by rw [upd_ne (ne_of_none q hn), q]; simp⟩
theorem Un.write (mu : Mut (H x)) (he : e = x ∨ H e = some (.own x)) (k : ∀ b u, b ≠ e → h.get? b = some u → h'.get? b = some u) (heo : ∃ u, h'.get? e = some u) : Un fs ex H (upd H x o) h h' := by
  have hx : ∀ b, H b = none → b ≠ x := fun b n z => by subst z; rw [n] at mu; exact mu
  have hb : ∀ b, H b = none → b ≠ e := fun b n z => by
    subst z
    rcases he with r | r
    · exact hx b n r
    · rw [n] at r; cases r
  have hm : ∀ b u, H b = some u → ¬ Mut (some u) → b ≠ x := fun b u q nm z => by subst z; rw [q] at mu; exact nm mu
  refine ⟨fun b u q n _ _ => k b u (hb b n) q, fun b u q n _ _ => ⟨u.slots, k b u (hb b n) q⟩, fun b u q n _ => by rw [upd_ne (hx b n)]; exact n, fun b u q _ => ?_,
    fun b xs q => by rw [upd_ne (hm b _ q fun z => z)]; exact q, fun b u xs q => by rw [upd_ne (hm b _ q fun z => z)]; exact q, fun b ps q => ⟨#[], by rw [upd_ne (hm b _ q fun z => z), q]; simp⟩⟩
  by_cases hbe : b = e
  · subst hbe; exact heo
  · exact ⟨u, k b u hbe q⟩
end

/-! ### the heap without what is tracked -/
def trk (h : Heap) (H : Hp) : List Addr := (List.range h.objs.size).filter fun a => (H a).isSome
def hidT (h : Heap) (H : Hp) : Heap := PySem.W.hideAll h (trk h H)
theorem hidT_size (h : Heap) (H : Hp) : (hidT h H).objs.size = h.objs.size := PySem.W.hideAll_size _ _
theorem hidT_get {h : Heap} {H : Hp} {b : Addr} {o : Obj} (e : h.get? b = some o) (n : H b = none) : (hidT h H).get? b = some o :=
  PySem.W.hideAll_get _ e fun hm => by
    have q : (H b).isSome = true := (List.mem_filter.mp hm).2
    rw [n] at q; simp at q
theorem of_hidT {h : Heap} {H : Hp} {b : Addr} {o : Obj} (e : (hidT h H).get? b = some o) : h.get? b = some o ∧ H b = none := by
  have e' : h.get? b = some o := PySem.W.of_hideAll (trk h H) e
  refine ⟨e', ?_⟩
  cases q : H b with
  | none => rfl
  | some x =>
    have hm : b ∈ trk h H := List.mem_filter.mpr ⟨List.mem_range.mpr (Heap.lt_size e'), by simp [q]⟩
    have z : (hidT h H).get? b = none := PySem.W.hideAll_none (trk h H) hm
    rw [z] at e; cases e

/-! ### OpenK's ledger, filled with every new object but one -/
end L2

namespace L2
open PySem PySem.Spec PyProof.Rows

/-- the module's facts, over the base: the heap at the law's entry without what is tracked there -/
structure Mod (K : PySem.W.Frag) (mg : Str → Option Value) (base : Heap) : Prop where
  kin : K.In base
  glob : base.Ns mainGlobals mg
  blt : ∃ mb, base.Ns builtinsNs mb ∧ ∀ x : Str, x ≠ "__name__" → mb x = bootBuiltins x
  nolimit : base.NoLimit

/-- the context: a def's body (or a comprehension's block) running. base: fixed through the whole law; s₀, H₀: the entry; outer: the frames whose slots others may change (a def's callers); stack: all frames that run;
   ex: iterators that were made ahead of the entry and are walked here (a comprehension's); fn: the names whose cells were made at the entry (a def: all; a comprehension's block: its own); calm: not within an except suite; pn: pins that every state bears; xe: what is wanted of an exception that leaves the code -/
structure Cx where
  prog : Program
  w : World
  K : PySem.W.Frag
  mg : Str → Option Value
  base : Heap
  A : Around
  N : List Str
  s₀ : Shared
  H₀ : Hp
  env : Env
  outer : List Env
  stack : List Env
  ex : List Addr
  fn : Str → Bool
  calm : Bool
  pn : List (Addr × Obj)
  xe : Value → Shared → Prop
/-- the callers' frames -/
def frs (l : List Env) : List Addr := l.filterMap (·.frame)
abbrev Cx.fs (X : Cx) : List Addr := frs X.outer

def Vis (sc : Scope) (x : Str) : Prop := sc.names.lookup x = some .local ∨ sc.names.lookup x = some .cell ∨ sc.names.lookup x = some .free
def Loc (sc : Scope) (x : Str) : Prop := sc.names.lookup x = some .local ∨ sc.names.lookup x = some .cell
def Look (env : Env) (h : Heap) (m : Str → Option Value) (x : Str) (u : Value) : Prop :=
  (env.kindOf x = some .local ∧ m x = some u) ∨ ((env.kindOf x = some .cell ∨ env.kindOf x = some .free) ∧ ∃ c, env.cells.lookup x = some c ∧ h.IsCell c (some u))

structure Cx.Ok (X : Cx) : Prop where
  mod : Mod X.K X.mg X.base
  kind : X.env.scope.kind = .function
  glob : X.env.globals = mainGlobals
  blt : X.env.builtins = builtinsNs
  above : X.s₀.heap.objs.size ≤ X.env.locals
  inj : ∀ x y c, X.env.cells.lookup x = some c → X.env.cells.lookup y = some c → x = y
  has : ∀ x, (X.env.kindOf x = some .cell ∨ X.env.kindOf x = some .free) → ∃ c, X.env.cells.lookup x = some c
  cab : ∀ x c, X.fn x = true → X.env.cells.lookup x = some c → X.s₀.heap.objs.size ≤ c
  hd : X.calm = true → X.A.handled = none
  frames : X.A.frames = some X.stack
  stk : X.stack = X.outer ∨ (X.stack = X.env :: X.outer ∧ X.env.frame = some X.env.locals)
  exf : ∀ b ∈ X.ex, b ≠ X.env.locals ∧ ∀ x c, X.env.cells.lookup x = some c → c ≠ b
  bs : ∀ b o, X.base.get? b = some o → X.s₀.heap.get? b = some o ∧ X.H₀ b = none
  bsz : X.base.objs.size ≤ X.s₀.heap.objs.size
  noex : ∀ b o, X.base.get? b = some o → b ∉ X.ex
  exfs : ∀ b ∈ X.ex, b ∉ X.fs
  funs : X.s₀.heap.FunFrames X.base X.outer
  frf : ∀ b ∈ X.fs, X.H₀ b = none

structure Inv (X : Cx) (pins : List (Addr × Obj)) (σ : List (Option V)) (H : Hp) (s : Shared) : Prop where
  ok : X.Ok
  os : s.os = X.s₀.os
  bare : AllBare s.gens
  base : Un X.fs X.ex X.H₀ H X.s₀.heap s.heap
  loc : ∃ m, s.heap.Ns X.env.locals m ∧ ∀ (i : Nat) (x : Str) (v : V), X.N[i]? = some x → σ[i]? = some (some v) → Vis X.env.scope x → ∃ u, RelV v u ∧ Look X.env s.heap m x u
  cell : ∀ x c, X.env.cells.lookup x = some c → ∃ v, s.heap.IsCell c v
  free : H X.env.locals = none
  freeC : ∀ x c, X.env.cells.lookup x = some c → H c = none
  pin : ∀ p ∈ X.pn ++ pins, s.heap.get? p.1 = some p.2 ∧ H p.1 = none ∧ p.1 ≠ X.env.locals ∧ p.1 ∉ X.fs ∧ ∀ v, p.2.data ≠ .cell v
  hok : HOk X.prog X.w H s.heap
  len : σ.length = X.N.length

section
variable {X : Cx} {pins : List (Addr × Obj)} {σ : List (Option V)} {H H' : Hp} {s : Shared} {h' : Heap}

theorem Cx.Ok.nofr (ok : X.Ok) {b : Addr} {o : Obj} (e : X.base.get? b = some o) : b ∉ X.fs := fun hb => by
  have := (ok.funs.mem hb).1
  rw [e] at this; cases this
theorem Inv.bs (I : Inv X pins σ H s) : ∀ b o, X.base.get? b = some o → s.heap.get? b = some o ∧ H b = none := fun b o e =>
  ⟨I.base.keep b o (I.ok.bs b o e).1 (I.ok.bs b o e).2 (I.ok.nofr e) (I.ok.noex b o e), I.base.free b o (I.ok.bs b o e).1 (I.ok.bs b o e).2 (I.ok.noex b o e)⟩
theorem Inv.bk (I : Inv X pins σ H s) : ∀ b o, X.base.get? b = some o → s.heap.get? b = some o := fun b o e => (I.bs b o e).1
theorem Inv.mod (I : Inv X pins σ H s) : Mod X.K X.mg X.base := I.ok.mod
theorem Inv.kIn (I : Inv X pins σ H s) : X.K.In s.heap := I.ok.mod.kin.keeps I.bk
theorem Inv.lt (I : Inv X pins σ H s) : X.env.locals < s.heap.objs.size := let ⟨_, hn, _⟩ := I.loc; hn.lt
theorem Inv.sz (I : Inv X pins σ H s) : X.s₀.heap.objs.size ≤ s.heap.objs.size := Nat.le_trans I.ok.above (Nat.le_of_lt I.lt)
theorem Inv.nofs (I : Inv X pins σ H s) {a : Addr} (h : s.heap.objs.size ≤ a) : a ∉ X.fs := fun hb => by
  obtain ⟨_, o, ho, _⟩ := I.ok.funs.mem hb
  exact absurd (Nat.lt_of_lt_of_le (Heap.lt_size ho) (Nat.le_trans I.sz h)) (Nat.lt_irrefl _)
theorem Inv.cne (I : Inv X pins σ H s) : ∀ x c, X.env.cells.lookup x = some c → c ≠ X.env.locals := fun x c e z => by
  obtain ⟨v, o, ho, hd⟩ := I.cell x c e
  obtain ⟨m, ⟨o', es, ep, ho', hd', _⟩, _⟩ := I.loc
  rw [z, ho'] at ho; cases ho; rw [hd'] at hd; cases hd
theorem Inv.funs (I : Inv X pins σ H s) : s.heap.FunFrames X.base X.outer := by
  have all : ∀ (l : List Env), (∀ b ∈ frs l, b ∈ X.fs) → X.s₀.heap.FunFrames X.base l → s.heap.FunFrames X.base l := by
    intro l
    induction l with
    | nil => intro _ _; trivial
    | cons env r ih =>
      intro hs hl
      obtain ⟨hk, ⟨L, o, hf, hn, ho, hd⟩, hr⟩ := hl
      have hL : L ∈ X.fs := hs L (by unfold frs; rw [List.filterMap_cons, hf]; exact List.mem_cons_self)
      obtain ⟨sl, e⟩ := I.base.slot L o ho (I.ok.frf L hL) hL fun z => I.ok.exfs L z hL
      exact ⟨hk, ⟨L, _, hf, hn, e, hd⟩, ih (fun b hb => hs b (by unfold frs; rw [List.filterMap_cons, hf]; exact List.mem_cons_of_mem _ hb)) hr⟩
  exact all X.outer (fun _ hb => hb) I.ok.funs

/-- the frames that run, for a call -/
theorem Inv.stack (I : Inv X pins σ H s) : s.heap.FunFrames X.base X.stack := by
  rcases I.ok.stk with e | ⟨e, hf⟩
  · rw [e]; exact I.funs
  · rw [e]
    obtain ⟨m, hn, _⟩ := I.loc
    refine .cons (by rw [I.ok.kind]; decide) hf hn ?_ I.funs
    exact Heap.get?_none_of_le (Nat.le_trans I.ok.bsz I.ok.above)
theorem Inv.stkSub (I : Inv X pins σ H s) : ∀ b ∈ frs X.stack, b ∈ X.env.locals :: X.fs := fun b hb => by
  rcases I.ok.stk with e | ⟨e, hf⟩
  · rw [e] at hb; exact List.mem_cons_of_mem _ hb
  · rw [e] at hb
    unfold frs at hb
    rw [List.filterMap_cons, hf] at hb
    exact hb
theorem Inv.stkFree (I : Inv X pins σ H s) : ∀ b ∈ frs X.stack, H b = none := fun b hb => by
  rcases List.mem_cons.mp (I.stkSub b hb) with e | hb
  · rw [e]; exact I.free
  · obtain ⟨_, o, ho, _⟩ := I.ok.funs.mem hb
    exact I.base.free b o ho (I.ok.frf b hb) fun z => I.ok.exfs b z hb

/-- THE STEP: the untracked objects but the frame and the records at ch are kept (the callers' frames up to slots), the frame's map is kept, the new abstract heap is held -/
theorem Inv.step {g' : Array GenState} {t' : Nat} {d' : Drawn} {ch : List Addr} (I : Inv X pins σ H s)
    (hch : ∀ b ∈ ch, (b ∈ X.ex ∨ X.s₀.heap.objs.size ≤ b) ∧ b ≠ X.env.locals ∧ (∀ x c, X.env.cells.lookup x = some c → c ≠ b) ∧ ∀ p ∈ X.pn ++ pins, p.1 ≠ b)
    (keep : ∀ b o, b ≠ X.env.locals → b ∉ X.fs → b ∉ ch → s.heap.get? b = some o → H b = none → h'.get? b = some o)
    (slot : ∀ b o, b ≠ X.env.locals → b ∈ X.fs → b ∉ ch → s.heap.get? b = some o → H b = none → ∃ sl, h'.get? b = some { o with slots := sl }) (free : ∀ b o, b ∉ ch → s.heap.get? b = some o → H b = none → H' b = none)
    (there : ∀ b o, b ∉ ch → s.heap.get? b = some o → ∃ o', h'.get? b = some o')
    (tups : ∀ b xs, H b = some (.tup xs) → H' b = some (.tup xs)) (frzs : ∀ b o u, H b = some (.frz o u) → H' b = some (.frz o u)) (tbls : ∀ b ps, H b = some (.tbl ps) → ∃ more, H' b = some (.tbl (ps ++ more)))
    (ns : ∀ m, s.heap.Ns X.env.locals m → h'.Ns X.env.locals m) (hok : HOk X.prog X.w H' h') (hg : AllBare g') :
    Inv X pins σ H' { s with heap := h', gens := g', drawn := d', toks := t' } := by
  have neL : ∀ b o, X.s₀.heap.get? b = some o → b ≠ X.env.locals := fun b o e => Nat.ne_of_lt (Nat.lt_of_lt_of_le (Heap.lt_size e) I.ok.above)
  have neC : ∀ b o, X.s₀.heap.get? b = some o → b ∉ X.ex → b ∉ ch := fun b o e hx hb => by
    rcases (hch b hb).1 with z | z
    · exact hx z
    · exact absurd (Nat.lt_of_lt_of_le (Heap.lt_size e) z) (Nat.lt_irrefl _)
  have cellK : ∀ x c, X.env.cells.lookup x = some c → ∀ v, s.heap.IsCell c v → h'.IsCell c v := fun x c e v ⟨o, ho, hd⟩ => by
    have nch : c ∉ ch := fun z => (hch c z).2.2.1 x c e rfl
    by_cases hc : c ∈ X.fs
    · obtain ⟨sl, q⟩ := slot c o (I.cne x c e) hc nch ho (I.freeC x c e)
      exact ⟨_, q, hd⟩
    · exact ⟨o, keep c o (I.cne x c e) hc nch ho (I.freeC x c e), hd⟩
  refine ⟨I.ok, I.os, hg, ⟨fun b o e n hb hx => ?_, fun b o e n hb hx => ?_, fun b o e n hx => ?_, fun b o e hx => ?_, fun b xs e => tups b xs (I.base.tups b xs e), fun b o xs e => frzs b o xs (I.base.frzs b o xs e), fun b ps e => ?_⟩, ?_, fun x c e => ?_, ?_, fun x c e => ?_, fun p hp => ?_, hok, I.len⟩
  · exact keep b o (neL b o e) hb (neC b o e hx) (I.base.keep b o e n hb hx) (I.base.free b o e n hx)
  · obtain ⟨sl, e1⟩ := I.base.slot b o e n hb hx
    obtain ⟨sl', e2⟩ := slot b _ (neL b o e) hb (neC b o e hx) e1 (I.base.free b o e n hx)
    exact ⟨sl', e2⟩
  · obtain ⟨o', e1⟩ := I.base.there b o e hx
    exact free b o' (neC b o e hx) e1 (I.base.free b o e n hx)
  · obtain ⟨o', e1⟩ := I.base.there b o e hx
    exact there b o' (neC b o e hx) e1
  · obtain ⟨m1, e1⟩ := I.base.tbls b ps e
    obtain ⟨m2, e2⟩ := tbls b _ e1
    exact ⟨m1 ++ m2, by rw [e2, Array.append_assoc]⟩
  · obtain ⟨m, hn, hl⟩ := I.loc
    refine ⟨m, ns m hn, fun i x v e1 e2 e3 => ?_⟩
    obtain ⟨u, r, l⟩ := hl i x v e1 e2 e3
    refine ⟨u, r, ?_⟩
    rcases l with l | ⟨k, c, e, z⟩
    · exact .inl l
    · exact .inr ⟨k, c, e, cellK x c e _ z⟩
  · obtain ⟨v, z⟩ := I.cell x c e
    exact ⟨v, cellK x c e v z⟩
  · obtain ⟨m, ⟨o, _, _, ho, _⟩, _⟩ := I.loc
    exact free _ o (fun z => (hch _ z).2.1 rfl) ho I.free
  · obtain ⟨v, o, ho, hd⟩ := I.cell x c e
    exact free c o (fun z => (hch c z).2.2.1 x c e rfl) ho (I.freeC x c e)
  · obtain ⟨e, n, ne, nf, d⟩ := I.pin p hp
    have nch : p.1 ∉ ch := fun z => (hch p.1 z).2.2.2 p hp rfl
    exact ⟨keep p.1 p.2 ne nf nch e n, free p.1 p.2 nch e n, ne, nf, d⟩
/-- .. where the frame's own object is kept too -/
theorem Inv.un {t' : Nat} (I : Inv X pins σ H s) (u : Un X.fs [] H H' s.heap h') (hok : HOk X.prog X.w H' h') : Inv X pins σ H' { s with heap := h', toks := t' } := by
  obtain ⟨m, ⟨o, es, ep, ho, r⟩, _⟩ := id I.loc
  obtain ⟨sl, hL⟩ := u.any ho I.free (by simp)
  exact I.step (g' := s.gens) (d' := s.drawn) (ch := []) (fun _ z => nomatch z) (fun b o _ hb _ e n => u.keep b o e n hb (by simp)) (fun b o _ hb _ e n => u.slot b o e n hb (by simp)) (fun b o _ e n => u.free b o e n (by simp)) (fun b o _ e => u.there b o e (by simp)) u.tups u.frzs u.tbls (fun m' hm => by
    obtain ⟨o', es', ep', ho', r'⟩ := hm
    rw [ho] at ho'; cases ho'
    exact ⟨_, es', ep', hL, r'⟩) hok I.bare
/-- behind a call (or a comprehension's block): the slots of this frame may have changed too, the records at ch may have turned -/
theorem Inv.call {g' : Array GenState} {t' : Nat} {d' : Drawn} {ch : List Addr} (I : Inv X pins σ H s) (u : Un (frs X.stack) ch H H' s.heap h') (hok : HOk X.prog X.w H' h') (hg : AllBare g')
    (hch : ∀ b ∈ ch, (b ∈ X.ex ∨ X.s₀.heap.objs.size ≤ b) ∧ b ≠ X.env.locals ∧ (∀ x c, X.env.cells.lookup x = some c → c ≠ b) ∧ ∀ p ∈ X.pn ++ pins, p.1 ≠ b) :
    Inv X pins σ H' { s with heap := h', gens := g', drawn := d', toks := t' } := by
  obtain ⟨m, ⟨o, es, ep, ho, r⟩, _⟩ := id I.loc
  obtain ⟨sl, hL⟩ := u.any ho I.free fun z => (hch _ z).2.1 rfl
  exact I.step (ch := ch) hch (fun b o hL hb hc e n => u.keep b o e n (fun z => (List.mem_cons.mp (I.stkSub b z)).elim hL hb) hc) (fun b o _ _ hc e n => u.any e n hc) (fun b o hc e n => u.free b o e n hc) (fun b o hc e => u.there b o e hc) u.tups u.frzs u.tbls (fun m' hm => by
    obtain ⟨o', es', ep', ho', r'⟩ := hm
    rw [ho] at ho'; cases ho'
    exact ⟨_, es', ep', hL, r'⟩) hok hg
/-- an untracked record of ours (an iterator) has turned -/
theorem Inv.turned {t' : Nat} {it : Addr} (I : Inv X pins σ H s) (k : ∀ b o, b ≠ it → s.heap.get? b = some o → h'.get? b = some o) (hn : H it = none) (hL : it ≠ X.env.locals)
    (h1 : it ∈ X.ex ∨ X.s₀.heap.objs.size ≤ it) (h2 : ∀ x c, X.env.cells.lookup x = some c → c ≠ it) (h3 : ∀ p ∈ X.pn ++ pins, p.1 ≠ it) : Inv X pins σ H { s with heap := h', toks := t' } := by
  have nit : ∀ b u, H b = some u → b ≠ it := fun b u e z => by rw [z, hn] at e; cases e
  refine I.step (g' := s.gens) (d' := s.drawn) (ch := [it]) (fun b hb => ?_) (fun b o _ _ hc e _ => k b o (fun z => hc (by simp [z])) e) (fun b o _ _ hc e _ => ⟨o.slots, k b o (fun z => hc (by simp [z])) e⟩) (fun _ _ _ _ n => n)
    (fun b o hc e => ⟨o, k b o (fun z => hc (by simp [z])) e⟩) (fun _ _ e => e) (fun _ _ _ e => e) (fun b ps e => ⟨#[], by rw [e]; simp⟩) (fun m hm => ?_) (fun b u e => ?_) I.bare
  · have e : b = it := by simpa using hb
    subst e
    exact ⟨h1, hL, h2, h3⟩
  · obtain ⟨o, es, ep, ho, r⟩ := hm
    exact ⟨o, es, ep, k _ o (Ne.symm hL) ho, r⟩
  · refine (I.hok b u e).stay (fun c v hc q => k c v ?_ q) (fun _ q => q) fun _ _ q => q
    rcases hc with z | z
    · rw [z]; exact nit b u e
    · exact nit c _ z
theorem Inv.tok (I : Inv X pins σ H s) (t : Nat) : Inv X pins σ H { s with toks := t } := I.un (h' := s.heap) (t' := t) Un.refl I.hok
/-- all objects kept -/
theorem Inv.kept {t' : Nat} (I : Inv X pins σ H s) (k : ∀ b u, s.heap.get? b = some u → h'.get? b = some u) : Inv X pins σ H { s with heap := h', toks := t' } := I.un (Un.kept k) (I.hok.kept k)
/-- a new object laid and tracked -/
theorem Inv.laid {a : Addr} {o : HO} {t' : Nat} (I : Inv X pins σ H s) (k : ∀ b u, s.heap.get? b = some u → h'.get? b = some u) (hp : s.heap.objs.size ≤ a) (new : ObjOk X.prog X.w (upd H a o) h' a o) :
    Inv X pins σ (upd H a o) { s with heap := h', toks := t' } := I.un (Un.laid k hp (I.hok.fresh hp)) (I.hok.laid k hp new)
/-- an object written -/
theorem Inv.write {x e : Addr} {o : HO} {t' : Nat} (I : Inv X pins σ H s) (mu : Mut (H x)) (he : e = x ∨ H e = some (.own x)) (k : ∀ b u, b ≠ e → s.heap.get? b = some u → h'.get? b = some u) (heo : ∃ u, h'.get? e = some u)
    (new : ObjOk X.prog X.w (upd H x o) h' x o) : Inv X pins σ (upd H x o) { s with heap := h', toks := t' } := I.un (Un.write mu he k heo) (I.hok.write mu he k heo new)
/-- forgetting slots, pins -/
theorem Inv.weak {σ' : List (Option V)} (I : Inv X pins σ H s) (hl : σ'.length = σ.length) (w : ∀ (i : Nat) v, σ'[i]? = some (some v) → σ[i]? = some (some v)) : Inv X pins σ' H s :=
  ⟨I.ok, I.os, I.bare, I.base, let ⟨m, hn, hl'⟩ := I.loc; ⟨m, hn, fun i x v e1 e2 e3 => hl' i x v e1 (w i v e2) e3⟩, I.cell, I.free, I.freeC, I.pin, I.hok, hl.trans I.len⟩
theorem Inv.pins_of {pins' : List (Addr × Obj)} (I : Inv X pins σ H s) (h : ∀ p ∈ pins', s.heap.get? p.1 = some p.2 ∧ H p.1 = none ∧ p.1 ≠ X.env.locals ∧ p.1 ∉ X.fs ∧ ∀ v, p.2.data ≠ .cell v) : Inv X pins' σ H s :=
  ⟨I.ok, I.os, I.bare, I.base, I.loc, I.cell, I.free, I.freeC, fun p hp => (List.mem_append.mp hp).elim (fun z => I.pin p (List.mem_append_left _ z)) (h p), I.hok, I.len⟩

theorem nodup_ix {N : List Str} (hN : N.Nodup) {i j : Nat} {x : Str} (a : N[i]? = some x) (b : N[j]? = some x) : i = j := by
  obtain ⟨h1, e1⟩ := List.getElem?_eq_some_iff.mp a
  obtain ⟨h2, e2⟩ := List.getElem?_eq_some_iff.mp b
  exact (List.getElem_inj hN).mp (e1.trans e2.symm)

/-- a name is stored; what changed -/
theorem store_ok2 {M : Model} {A : Around} {E : Value → Shared → Prop} {i : Nat} {x : Str} {v : V} {u : Value} {Q : Unit → Shared → Prop} (I : Inv X pins σ H s) (hN : X.N.Nodup) (hi : X.N[i]? = some x) (hx : Loc X.env.scope x) (r : RelV v u)
    (h : ∀ s', Inv X pins (σ.set i (some v)) H s' → (∃ a, Heap.SameBut a s.heap s'.heap ∧ (a = X.env.locals ∨ X.env.cells.lookup x = some a)) → Q () s') (hf : X.fn x = true ∨ X.env.scope.names.lookup x = some .local := by first | exact .inl rfl | exact .inr rfl | assumption) : wpAny M A (storeName X.env x u) Q E s := by
  obtain ⟨m, hn, hl⟩ := id I.loc
  have hcls : (X.env.scope.kind == .class || (X.env.scope.kind == .module && X.env.locals != X.env.globals)) = false := by rw [I.ok.kind]; rfl
  have hiσ : i < σ.length := by rw [I.len]; exact (List.getElem?_eq_some_iff.mp hi).1
  have cne := I.cne
  have tracked : ∀ {a : Addr} {h' : Heap}, (∃ o, s.heap.get? a = some o ∧ H a = none) → Heap.SameBut a s.heap h' → HOk X.prog X.w H h' := fun {a h'} ha hs b ob e => by
    obtain ⟨_, _, hfree⟩ := ha
    refine (I.hok b ob e).stay (fun c w' hc q => (hs.2 c ?_).trans q) (fun _ q => q) fun _ _ q => q
    rintro rfl
    rcases hc with rfl | hc
    · rw [hfree] at e; cases e
    · rw [hfree] at hc; cases hc
  rcases hx with hk | hk
  · refine wpAny_storeName_local hk hn (fun h' hn' hs => ?_) hcls
    obtain ⟨oL, _, _, hoL, _⟩ := id hn
    refine h _ ⟨I.ok, I.os, I.bare, ⟨fun b o e n hb hx => ?_, fun b o e n hb hx => ?_, I.base.free, fun b o e hx => ?_, I.base.tups, I.base.frzs, I.base.tbls⟩, ⟨_, hn', fun j y v' e1 e2 e3 => ?_⟩, fun y c e => ?_, I.free, I.freeC, fun p hp => ?_, tracked ⟨oL, hoL, I.free⟩ hs, by simpa using I.len⟩ ⟨_, hs, .inl rfl⟩
    · exact (hs.2 b (Nat.ne_of_lt (Nat.lt_of_lt_of_le (Heap.lt_size e) I.ok.above))).trans (I.base.keep b o e n hb hx)
    · obtain ⟨sl, e1⟩ := I.base.slot b o e n hb hx
      exact ⟨sl, (hs.2 b (Nat.ne_of_lt (Nat.lt_of_lt_of_le (Heap.lt_size e) I.ok.above))).trans e1⟩
    · obtain ⟨o', e1⟩ := I.base.there b o e hx
      exact ⟨o', (hs.2 b (Nat.ne_of_lt (Nat.lt_of_lt_of_le (Heap.lt_size e) I.ok.above))).trans e1⟩
    · by_cases hj : j = i
      · subst hj
        rw [hi] at e1; cases e1
        rw [List.getElem?_set_self hiσ] at e2
        cases e2
        exact ⟨u, r, .inl ⟨hk, by simp⟩⟩
      · rw [List.getElem?_set_ne (Ne.symm hj)] at e2
        obtain ⟨u', r', q⟩ := hl j y v' e1 e2 e3
        refine ⟨u', r', ?_⟩
        rcases q with ⟨k, e⟩ | ⟨k, c, e, z⟩
        · refine .inl ⟨k, ?_⟩
          have : y ≠ x := fun e => hj (nodup_ix hN e1 (e ▸ hi))
          simp [this, e]
        · exact .inr ⟨k, c, e, z.sameBut hs (cne y c e)⟩
    · obtain ⟨w', z⟩ := I.cell y c e
      exact ⟨w', z.sameBut hs (cne y c e)⟩
    · obtain ⟨e, n, ne, nf, d⟩ := I.pin p hp
      exact ⟨(hs.2 p.1 ne).trans e, n, ne, nf, d⟩
  · have hfn : X.fn x = true := by
      rcases hf with z | z
      · exact z
      · rw [z] at hk; cases hk
    obtain ⟨c, hc⟩ := I.ok.has x (.inl hk)
    obtain ⟨w', z⟩ := I.cell x c hc
    refine wpAny_storeName_cell I.ok.kind hk hc z (fun h' hc' hs => ?_)
    obtain ⟨oc, hoc, hocd⟩ := id z
    refine h { s with heap := h' } ⟨I.ok, I.os, I.bare, ⟨fun b o e n hb hx => ?_, fun b o e n hb hx => ?_, I.base.free, fun b o e hx => ?_, I.base.tups, I.base.frzs, I.base.tbls⟩, ⟨m, hn.sameBut hs (Ne.symm (cne x c hc)), fun j y v' e1 e2 e3 => ?_⟩, fun y c' e => ?_, I.free, I.freeC, fun p hp => ?_, tracked ⟨oc, hoc, I.freeC x c hc⟩ hs, by simpa using I.len⟩ ⟨c, hs, .inr hc⟩
    · exact (hs.2 b (Nat.ne_of_lt (Nat.lt_of_lt_of_le (Heap.lt_size e) (I.ok.cab x c hfn hc)))).trans (I.base.keep b o e n hb hx)
    · obtain ⟨sl, e1⟩ := I.base.slot b o e n hb hx
      exact ⟨sl, (hs.2 b (Nat.ne_of_lt (Nat.lt_of_lt_of_le (Heap.lt_size e) (I.ok.cab x c hfn hc)))).trans e1⟩
    · obtain ⟨o', e1⟩ := I.base.there b o e hx
      exact ⟨o', (hs.2 b (Nat.ne_of_lt (Nat.lt_of_lt_of_le (Heap.lt_size e) (I.ok.cab x c hfn hc)))).trans e1⟩
    · by_cases hj : j = i
      · subst hj
        rw [hi] at e1; cases e1
        rw [List.getElem?_set_self hiσ] at e2
        cases e2
        exact ⟨u, r, .inr ⟨.inl hk, c, hc, hc'⟩⟩
      · rw [List.getElem?_set_ne (Ne.symm hj)] at e2
        obtain ⟨u', r', q⟩ := hl j y v' e1 e2 e3
        refine ⟨u', r', ?_⟩
        rcases q with q | ⟨k, c', e, z'⟩
        · exact .inl q
        · refine .inr ⟨k, c', e, z'.sameBut hs ?_⟩
          rintro rfl
          exact hj (nodup_ix hN e1 (I.ok.inj _ _ _ e hc ▸ hi))
    · by_cases hcc : c' = c
      · subst hcc; exact ⟨_, hc'⟩
      · obtain ⟨w2, z2⟩ := I.cell y c' e
        exact ⟨w2, z2.sameBut hs hcc⟩
    · obtain ⟨e, n, ne, nf, d⟩ := I.pin p hp
      refine ⟨(hs.2 p.1 ?_).trans e, n, ne, nf, d⟩
      intro q
      rw [q, hoc] at e
      have q' : oc = p.2 := Option.some.inj e
      exact d w' (by rw [← q']; exact hocd)
theorem store_ok {M : Model} {A : Around} {E : Value → Shared → Prop} {i : Nat} {x : Str} {v : V} {u : Value} {Q : Unit → Shared → Prop} (I : Inv X pins σ H s) (hN : X.N.Nodup) (hi : X.N[i]? = some x) (hx : Loc X.env.scope x) (r : RelV v u)
    (h : ∀ s', Inv X pins (σ.set i (some v)) H s' → Q () s') (hf : X.fn x = true ∨ X.env.scope.names.lookup x = some .local := by first | exact .inl rfl | exact .inr rfl | assumption) : wpAny M A (storeName X.env x u) Q E s :=
  store_ok2 I hN hi hx r (fun s' I' _ => h s' I') hf
/-- behind a call or a block, the state as it is -/
theorem Inv.call' {s' : Shared} {ch : List Addr} (I : Inv X pins σ H s) (ho : s'.os = s.os) (u : Un (frs X.stack) ch H H' s.heap s'.heap) (hok : HOk X.prog X.w H' s'.heap) (hg : AllBare s'.gens)
    (hch : ∀ b ∈ ch, (b ∈ X.ex ∨ X.s₀.heap.objs.size ≤ b) ∧ b ≠ X.env.locals ∧ (∀ x c, X.env.cells.lookup x = some c → c ≠ b) ∧ ∀ p ∈ X.pn ++ pins, p.1 ≠ b) : Inv X pins σ H' s' := by
  obtain ⟨h', g', d', t', o'⟩ := s'
  have e : o' = s.os := ho
  subst e
  exact I.call (g' := g') (t' := t') (d' := d') u hok hg hch
end

/-! ### the judgements -/
/-- an exception: its class, its own dict's address (where it has one), the abstract heap behind it -/
abbrev XK := Value → Option Addr → Hp → Prop
abbrev St := List (Option V)
abbrev VK := V → Hp → Prop
/-- an expression's reading; a test's; an argument list's -/
abbrev TE := St → Hp → VK → Prop
abbrev TT := St → Hp → (Bool → Hp → Prop) → Prop
abbrev TA := St → Hp → (List V → Hp → Prop) → Prop
/-- what is wanted behind a statement -/
structure Ends where
  nx : St → Hp → Prop
  rt : VK
  bk : St → Hp → Prop := fun _ _ => False
  ct : St → Hp → Prop := fun _ _ => False
abbrev TS := Ends → St → Hp → Prop

def EP (X : Cx) (pins : List (Addr × Obj)) (σ : St) (Q : VK) (u : Value) (s' : Shared) : Prop := ∃ v H', Inv X pins σ H' s' ∧ RelV v u ∧ Q v H'
def TP (X : Cx) (pins : List (Addr × Obj)) (σ : St) (Q : Bool → Hp → Prop) (b : Bool) (s' : Shared) : Prop := ∃ H', Inv X pins σ H' s' ∧ Q b H'
def AP (X : Cx) (pins : List (Addr × Obj)) (σ : St) (Q : List V → Hp → Prop) (us : List Value) (s' : Shared) : Prop := ∃ vs H', Inv X pins σ H' s' ∧ Vals vs us ∧ Q vs H'
def SP (X : Cx) (pins : List (Addr × Obj)) (D : Ends) (f : Flow) (s' : Shared) : Prop :=
  match f with
  | .next => ∃ σ' H', Inv X pins σ' H' s' ∧ D.nx σ' H'
  | .brk => ∃ σ' H', Inv X pins σ' H' s' ∧ D.bk σ' H'
  | .cont => ∃ σ' H', Inv X pins σ' H' s' ∧ D.ct σ' H'
  | .ret u => ∃ v σ' H', Inv X pins σ' H' s' ∧ RelV v u ∧ D.rt v H'

def PE (X : Cx) (e : Expr) (t : TE) : Prop :=
  ∀ (pins : List (Addr × Obj)) (s : Shared) (σ : St) (H : Hp) (Q : VK), Inv X pins σ H s → t σ H Q → wpAny (model X.prog X.w) X.A (eval e X.env) (EP X pins σ Q) X.xe s
def PT (X : Cx) (e : Expr) (t : TT) : Prop :=
  ∀ (pins : List (Addr × Obj)) (s : Shared) (σ : St) (H : Hp) (Q : Bool → Hp → Prop), Inv X pins σ H s → t σ H Q → wpAny (model X.prog X.w) X.A (isTrue e X.env (eval e X.env)) (TP X pins σ Q) X.xe s
/-- a test whatever its 'whole' is (and, or) -/
def PW (X : Cx) (e : Expr) (t : TT) : Prop :=
  ∀ (whole : Sem Value) (pins : List (Addr × Obj)) (s : Shared) (σ : St) (H : Hp) (Q : Bool → Hp → Prop), Inv X pins σ H s → t σ H Q → wpAny (model X.prog X.w) X.A (isTrue e X.env whole) (TP X pins σ Q) X.xe s
theorem PW.pt {X : Cx} {e : Expr} {t : TT} (h : PW X e t) : PT X e t := h _
/-- an argument list (no star), from the left -/
def PA (X : Cx) (es : List Expr) (t : TA) : Prop :=
  ∀ (pos : Pos) (pins : List (Addr × Obj)) (s : Shared) (σ : St) (H : Hp) (Q : List V → Hp → Prop), Inv X pins σ H s → t σ H Q → wpAny (model X.prog X.w) X.A (spliced (backTo pos (starEach es X.env))) (AP X pins σ Q) X.xe s
def PS (X : Cx) (st : Stmt) (t : TS) : Prop :=
  ∀ (pins : List (Addr × Obj)) (s : Shared) (σ : St) (H : Hp) (D : Ends), Inv X pins σ H s → t D σ H → wpAny (model X.prog X.w) X.A (exec st X.env) (SP X pins D) X.xe s
def PSs (X : Cx) (st : List Stmt) (t : TS) : Prop :=
  ∀ (pins : List (Addr × Obj)) (s : Shared) (σ : St) (H : Hp) (D : Ends), Inv X pins σ H s → t D σ H → wpAny (model X.prog X.w) X.A (execs st X.env) (SP X pins D) X.xe s
/-- weaken the end -/
theorem thn {α : Type} {t : Sem α} {Q Q' : α → Shared → Prop} {M : Model} {A : Around} {E : Value → Shared → Prop} {s : Shared} (h : wpAny M A t Q E s) (hQ : ∀ a s, Q a s → Q' a s) : wpAny M A t Q' E s := wpAny_mono h hQ fun _ _ x => x
end L2

namespace L2
open PySem PySem.Spec PyProof.Rows
section
variable {X : Cx}

/-! ### names and constants -/
def tVar (i : Nat) : TE := fun σ H Q => ∃ v, σ[i]? = some (some v) ∧ Q v H
def tC (v : V) : TE := fun _ H Q => Q v H
theorem pe_var {i : Nat} {x : Str} {pos : Pos} (hN : X.N[i]? = some x) (hv : Vis X.env.scope x) (hd : (x == ("__debug__" : Str)) = false := by decide) (hcd : (x == ("__classdict__" : Str)) = false := by decide) : PE X (.Name x pos) (tVar i) := by
  intro pins s σ H Q I h
  obtain ⟨v, e, h⟩ := h
  obtain ⟨m, hn, hl⟩ := I.loc
  obtain ⟨u, r, l⟩ := hl i x v hN e hv
  have fin : EP X pins σ Q u s := ⟨v, H, I, r, h⟩
  rcases l with ⟨hk, hm⟩ | ⟨hk, c, hc, hcell⟩
  · exact wpAny_Name (wpAny_loadName_local I.ok.kind hk hn hm fin) hd
  · rcases hk with hk | hk
    · exact wpAny_Name (wpAny_loadName_cell I.ok.kind hk hc hcell fin) hd
    · exact wpAny_Name (wpAny_loadName_free I.ok.kind hk hc hcell fin hcd) hd
theorem pe_int {i j pos} : PE X (.Constant (.int i) j pos) (tC (.int i)) := fun _ _ _ H _ I h => wpAny_Constant_int ⟨.int i, H, I.tok _, ⟨_, rfl⟩, h⟩
theorem pe_bl {b j pos} : PE X (.Constant (.bool b) j pos) (tC (.bl b)) := fun _ _ _ H _ I h => Constant_bool ⟨.bl b, H, I, rfl, h⟩
theorem pe_non {j pos} : PE X (.Constant .none j pos) (tC .non) := fun _ _ _ H _ I h => Constant_none ⟨.non, H, I, rfl, h⟩
theorem pe_str {x j pos} : PE X (.Constant (.str x) j pos) (tC (.str x)) := fun _ _ _ H _ I h => Calls.Constant_str ⟨.str x, H, I.tok _, ⟨_, rfl⟩, h⟩

/-- a global name of the def -/
def Gl (X : Cx) (x : Str) : Prop := X.env.kindOf x = some .globalImplicit
theorem ld_glob {E : Value → Shared → Prop} {pins : List (Addr × Obj)} {s : Shared} {σ : St} {H : Hp} {x : Str} {u : Value} {pos : Pos} {Q : Value → Shared → Prop} (I : Inv X pins σ H s) (hg : Gl X x) (hm : X.mg x = some u) (h : Q u s)
    (hd : (x == ("__debug__" : Str)) = false := by decide) : wpAny (model X.prog X.w) X.A (eval (.Name x pos) X.env) Q E s :=
  Calls.Name_function_global I.ok.kind hg (Calls.loadGlobal_global (by rw [I.ok.glob]; exact I.mod.glob.keeps I.bk) hm h) hd
theorem ld_blt {E : Value → Shared → Prop} {pins : List (Addr × Obj)} {s : Shared} {σ : St} {H : Hp} {x : Str} {u : Value} {pos : Pos} {Q : Value → Shared → Prop} (I : Inv X pins σ H s) (hg : Gl X x) (hm : X.mg x = none) (hv : bootBuiltins x = some u) (h : Q u s)
    (hn : x ≠ "__name__" := by decide) (hd : (x == ("__debug__" : Str)) = false := by decide) : wpAny (model X.prog X.w) X.A (eval (.Name x pos) X.env) Q E s := by
  obtain ⟨mb, h1, h2⟩ := I.mod.blt
  exact Calls.Name_function_global I.ok.kind hg (Calls.loadGlobal_builtin (by rw [I.ok.glob]; exact I.mod.glob.keeps I.bk) hm (by rw [I.ok.blt]; exact h1.keeps I.bk) ((h2 x hn).trans hv) h) hd
/-- a module's constant, a class, a function, as a value -/
theorem pe_glob {x : Str} {v : V} {u : Value} {pos : Pos} (hg : Gl X x) (hm : X.mg x = some u) (r : RelV v u) (hd : (x == ("__debug__" : Str)) = false := by decide) : PE X (.Name x pos) (tC v) :=
  fun _ _ _ H _ I h => ld_glob I hg hm ⟨v, H, I, r, h⟩ hd
theorem pe_bltn {x : Str} {v : V} {u : Value} {pos : Pos} (hg : Gl X x) (hm : X.mg x = none) (hv : bootBuiltins x = some u) (r : RelV v u) (hn : x ≠ "__name__" := by decide) (hd : (x == ("__debug__" : Str)) = false := by decide) : PE X (.Name x pos) (tC v) :=
  fun _ _ _ H _ I h => ld_blt I hg hm hv ⟨v, H, I, r, h⟩ hn hd

/-! ### arithmetic -/
variable {a b : Expr} {ta tb : TE} {pos : Pos}
/-! ### comparisons -/
def PC (X : Cx) (op : CmpOp) (a b : Expr) (t : TE) : Prop :=
  ∀ (pins : List (Addr × Obj)) (s : Shared) (σ : St) (H : Hp) (Q : VK), Inv X pins σ H s → t σ H Q →
    wpAny (model X.prog X.w) X.A (eval a X.env) (fun v s₁ => wpAny (model X.prog X.w) X.A (eval b X.env) (fun u s₂ => wpAny (model X.prog X.w) X.A (compareOp op v u) (EP X pins σ Q) X.xe s₂) X.xe s₁) X.xe s
/-- a comparison as a value, as a test -/
def tB (t : TE) : TT := fun σ H Q => t σ H fun x H1 => ∃ c, x = .bl c ∧ Q c H1
theorem pt_cmp {op : CmpOp} {t : TE} (h : PC X op a b t) (h1 : behindInMarks op b = false := by first | exact nobehind _ (by decide) (by decide) | rfl) : PT X (.Compare a [op] [b] pos) (tB t) := by
  intro pins s σ H Q I hw
  refine wpAny_isTrue_Compare1 (thn (h pins s σ H _ I hw) fun v s1 h1 => thn h1 fun u s2 h2 => thn h2 fun c s3 ⟨x, H1, I1, r1, q1⟩ => ?_) h1
  obtain ⟨d, rfl, q⟩ := q1
  cases r1
  exact wpAny_truthy_bool ⟨H1, I1, q⟩
/-- an expression whose value is a bool, as a test -/
theorem pt_val {e : Expr} {t : TE} (h : PE X e t) (he : ∀ whole, isTrue e X.env whole = (do let v ← whole; standAt e.pos; holding [v] (truthy v)) := by intro _; rfl) : PT X e (tB t) := by
  intro pins s σ H Q I hw
  refine isTrue_plain (thn (h pins s σ H _ I hw) fun v s1 ⟨x, H1, I1, r1, q1⟩ => ?_) (he _)
  obtain ⟨d, rfl, q⟩ := q1
  cases r1
  exact wpAny_truthy_bool ⟨H1, I1, q⟩

/-! ### and, or, not -/
variable {tA tB' : TT} {rest : List Expr}
def tAnd (t u : TT) : TT := fun σ H Q => t σ H fun c H1 => if c = true then u σ H1 Q else Q false H1
def tOr (t u : TT) : TT := fun σ H Q => t σ H fun c H1 => if c = true then Q true H1 else u σ H1 Q
def tNot (t : TT) : TT := fun σ H Q => t σ H fun c H1 => Q (!c) H1
theorem pw_and1 (ha : PT X a tA) : PW X (.BoolOp .And [a] pos) tA := by
  intro wh pins s σ H Q I h
  refine isTrue_and (thn (ha pins s σ H Q I h) fun c s1 e => ?_)
  cases c with
  | true => exact isTrue_and_nil e
  | false => exact e
theorem pw_or1 (ha : PT X a tA) : PW X (.BoolOp .Or [a] pos) tA := by
  intro wh pins s σ H Q I h
  refine isTrue_or (thn (ha pins s σ H Q I h) fun c s1 e => ?_)
  cases c with
  | false => exact isTrue_or_nil e
  | true => exact e
theorem pw_and (ha : PT X a tA) (hb : PW X (.BoolOp .And (b :: rest) pos) tB') : PW X (.BoolOp .And (a :: b :: rest) pos) (tAnd tA tB') := by
  intro wh pins s σ H Q I h
  refine isTrue_and (thn (ha pins s σ H _ I h) fun c s1 ⟨H1, I1, q1⟩ => ?_)
  cases c with
  | true => exact hb wh pins s1 σ H1 Q I1 q1
  | false => exact ⟨H1, I1, q1⟩
theorem pw_or (ha : PT X a tA) (hb : PW X (.BoolOp .Or (b :: rest) pos) tB') : PW X (.BoolOp .Or (a :: b :: rest) pos) (tOr tA tB') := by
  intro wh pins s σ H Q I h
  refine isTrue_or (thn (ha pins s σ H _ I h) fun c s1 ⟨H1, I1, q1⟩ => ?_)
  cases c with
  | true => exact ⟨H1, I1, q1⟩
  | false => exact hb wh pins s1 σ H1 Q I1 q1
theorem pt_not (ha : PT X a tA) : PT X (.UnaryOp .Not a pos) (tNot tA) := by
  intro pins s σ H Q I h
  exact isTrue_not (ha pins s σ H (fun c H1 => Q (!c) H1) I h)
/-- .. as values (bools) -/
def tAndV (ta tb : TE) : TE := fun σ H Q => ta σ H fun x H1 => ∃ c, x = .bl c ∧ if c = true then tb σ H1 Q else Q (.bl false) H1
def tNotV (ta : TE) : TE := fun σ H Q => ta σ H fun x H1 => ∃ c, x = .bl c ∧ Q (.bl (!c)) H1
theorem pe_one {op} {t : TE} (h : PE X a t) : PE X (.BoolOp op [a] pos) t := fun pins s σ H Q I hw => BoolOp_one (h pins s σ H Q I hw)
theorem pe_and (ha : PE X a ta) (hb : PE X (.BoolOp .And (b :: rest) pos) tb) : PE X (.BoolOp .And (a :: b :: rest) pos) (tAndV ta tb) := by
  intro pins s σ H Q I h
  refine BoolOp_and (thn (ha pins s σ H _ I h) fun v s1 ⟨x, H1, I1, r1, q1⟩ => ?_)
  obtain ⟨c, rfl, q1⟩ := q1
  cases r1
  refine wpAny_truthy_bool ?_
  cases c with
  | true => exact hb pins s1 σ H1 Q I1 q1
  | false => exact ⟨.bl false, H1, I1, rfl, q1⟩
theorem pe_not (ha : PE X a ta) : PE X (.UnaryOp .Not a pos) (tNotV ta) := by
  intro pins s σ H Q I h
  refine UnaryOp_ (thn (ha pins s σ H _ I h) fun v s1 ⟨x, H1, I1, r1, q1⟩ => ?_)
  obtain ⟨c, rfl, q1⟩ := q1
  cases r1
  exact not_of (wpAny_truthy_bool ⟨.bl (!c), H1, I1, rfl, q1⟩)
end
end L2

namespace L2
open PySem PySem.Spec PyProof.Rows

/-! ### a list, a tuple that is read: tracked, frozen, or an object of the module -/
def SqL (K : PySem.W.Frag) (H : Hp) (a : Addr) (xs : List V) : Prop :=
  Rd H a (.lst xs) ∨
    ∃ (o : Obj) (its : Array Value) (n : Nat), K.lookup a = some o ∧ o.cls = .type "list" ∧ o.dict = none ∧ o.data = .seq its n ∧ its.size ≤ sizeLine ∧ Vals xs its.toList
def SqT (K : PySem.W.Frag) (H : Hp) (a : Addr) (xs : List V) : Prop :=
  Rd H a (.tup xs) ∨
    ∃ (o : Obj) (its : Array Value) (n : Nat), K.lookup a = some o ∧ o.cls = .type "tuple" ∧ o.data = .seq its n ∧ its.size ≤ sizeLine ∧ Vals xs its.toList
def absV : Value → Option V
  | .none => some .non
  | .bool b => some (.bl b)
  | .int i _ => some (.int i)
  | .str x _ => some (.str x)
  | .bytes b _ => some (.byt b)
  | .float b _ => some (.flt b)
  | .ref a => some (.ref a)
  | .type n => some (.ty n)
  | _ => none
theorem RelV.abs {x : V} {u : Value} (r : RelV x u) : absV u = some x := by
  cases x with
  | non => cases r; rfl
  | bl _ => cases r; rfl
  | int _ => obtain ⟨t, rfl⟩ := r; rfl
  | str _ => obtain ⟨t, rfl⟩ := r; rfl
  | byt _ => obtain ⟨t, rfl⟩ := r; rfl
  | flt _ => obtain ⟨t, rfl⟩ := r; rfl
  | ref _ => cases r; rfl
  | ty _ => cases r; rfl
theorem RelV.inj {x y : V} {u : Value} (r : RelV x u) (q : RelV y u) : x = y := Option.some.inj (r.abs.symm.trans q.abs)
theorem Vals.inj : ∀ {xs ys : List V} {us : List Value}, Vals xs us → Vals ys us → xs = ys
  | _, _, _, .nil, .nil => rfl
  | _, _, _, .cons r t, .cons r' t' => by rw [r.inj r', Vals.inj t t']
section
variable {X : Cx} {pins : List (Addr × Obj)} {σ : St} {H : Hp} {s : Shared} {a : Addr} {xs ys : List V}
theorem Inv.list (I : Inv X pins σ H s) (h : SqL X.K H a xs) : ∃ its : List Value, Vals xs its ∧ PlainL s.heap a its.toArray ∧ xs.length ≤ sizeLine := by
  rcases h with h | ⟨o, its, n, hk, hc, hd, hs, hz, r⟩
  · obtain ⟨z, its, n, r, e⟩ := h.ok I.hok
    exact ⟨its, r, ⟨_, n, e, rfl, rfl, rfl⟩, z⟩
  · refine ⟨its.toList, r, ⟨o, n, I.kIn a o hk, hc, hd, by simpa using hs⟩, ?_⟩
    have e := r.length
    simp only [Array.length_toList] at e
    omega
theorem Inv.tuple (I : Inv X pins σ H s) (h : SqT X.K H a xs) : ∃ its : List Value, Vals xs its ∧ IsTup s.heap a its.toArray ∧ xs.length ≤ sizeLine := by
  rcases h with h | ⟨o, its, n, hk, hc, hs, hz, r⟩
  · obtain ⟨z, its, r, p⟩ := h.ok I.hok
    exact ⟨its, r, p, z⟩
  · refine ⟨its.toList, r, ⟨o, I.kIn a o hk, hc, n, by simpa using hs⟩, ?_⟩
    have e := r.length
    simp only [Array.length_toList] at e
    omega
theorem Inv.list_inj (I : Inv X pins σ H s) (h : SqL X.K H a xs) (h' : SqL X.K H a ys) : xs = ys := by
  obtain ⟨its, r, ⟨o, n, e, _, _, d⟩, _⟩ := I.list h
  obtain ⟨its', r', ⟨o', n', e', _, _, d'⟩, _⟩ := I.list h'
  rw [e] at e'; cases e'
  rw [d] at d'
  injection d' with d1 _
  have : its = its' := by simpa using congrArg Array.toList d1
  subst this
  exact r.inj r'
end

/-! ### another wish about exceptions -/
abbrev Cx.wish (X : Cx) (E : Value → Shared → Prop) : Cx := { X with xe := E }
/-- no exception leaves -/
abbrev Cx.nox (X : Cx) : Cx := X.wish fun _ _ => False
theorem Cx.Ok.wish {X : Cx} (ok : X.Ok) (E : Value → Shared → Prop) : (X.wish E).Ok :=
  ⟨ok.mod, ok.kind, ok.glob, ok.blt, ok.above, ok.inj, ok.has, ok.cab, ok.hd, ok.frames, ok.stk, ok.exf, ok.bs, ok.bsz, ok.noex, ok.exfs, ok.funs, ok.frf⟩
theorem Cx.Ok.unwish {X : Cx} {E : Value → Shared → Prop} (ok : (X.wish E).Ok) : X.Ok :=
  ⟨ok.mod, ok.kind, ok.glob, ok.blt, ok.above, ok.inj, ok.has, ok.cab, ok.hd, ok.frames, ok.stk, ok.exf, ok.bs, ok.bsz, ok.noex, ok.exfs, ok.funs, ok.frf⟩
section
variable {X : Cx} {pins : List (Addr × Obj)} {σ : St} {H : Hp} {s : Shared} {E : Value → Shared → Prop}
theorem Inv.wish (I : Inv X pins σ H s) (E : Value → Shared → Prop) : Inv (X.wish E) pins σ H s := ⟨I.ok.wish E, I.os, I.bare, I.base, I.loc, I.cell, I.free, I.freeC, I.pin, I.hok, I.len⟩
theorem Inv.unwish (I : Inv (X.wish E) pins σ H s) : Inv X pins σ H s := ⟨I.ok.unwish, I.os, I.bare, I.base, I.loc, I.cell, I.free, I.freeC, I.pin, I.hok, I.len⟩
theorem SP.unwish {D : Ends} {f : Flow} {s' : Shared} (h : SP (X.wish E) pins D f s') : SP X pins D f s' := by
  cases f with
  | next => obtain ⟨σ', H', I, q⟩ := h; exact ⟨σ', H', I.unwish, q⟩
  | brk => obtain ⟨σ', H', I, q⟩ := h; exact ⟨σ', H', I.unwish, q⟩
  | cont => obtain ⟨σ', H', I, q⟩ := h; exact ⟨σ', H', I.unwish, q⟩
  | ret u => obtain ⟨v, σ', H', I, r, q⟩ := h; exact ⟨v, σ', H', I.unwish, r, q⟩
theorem PSs.nox {st : List Stmt} {t : TS} (h : PSs X.nox st t) : PSs X st t := fun pins s σ H D I hw =>
  wpAny_mono (h pins s σ H D (I.wish _) hw) (fun _ _ q => q.unwish) fun _ _ z => False.elim z
end

/-! ### blocks and small statements -/
section
variable {X : Cx} {st : Stmt} {rest : List Stmt} {t u : TS} {e : Expr} {te : TE} {pos : Pos}
def tNext : TS := fun D σ H => D.nx σ H
def tSeq (t u : TS) : TS := fun D σ H => t { D with nx := u D } σ H
theorem pss_nil : PSs X [] tNext := fun _ _ σ H _ I h => wpAny_execs_nil ⟨σ, H, I, h⟩
theorem pss_cons (h1 : PS X st t) (h2 : PSs X rest u) : PSs X (st :: rest) (tSeq t u) := by
  intro pins s σ H D I h
  refine wpAny_execs_cons (thn (h1 pins s σ H { D with nx := u D } I h) fun f s1 q => ?_)
  cases f with
  | next =>
    obtain ⟨σ', H', I', q⟩ := q
    exact h2 pins s1 σ' H' D I' q
  | ret v => exact q
  | brk => exact q
  | cont => exact q
theorem pss_one (h1 : PS X st t) : PSs X [st] t := by
  intro pins s σ H D I h
  refine wpAny_execs_cons (thn (h1 pins s σ H D I h) fun f s1 q => ?_)
  cases f with
  | next => exact wpAny_execs_nil q
  | ret v => exact q
  | brk => exact q
  | cont => exact q
/-- in a def's body nothing is shown -/
theorem Inv.quiet {pins : List (Addr × Obj)} {σ : St} {H : Hp} {s : Shared} (I : Inv X pins σ H s) : interactive X.env = false := by simp [interactive, I.ok.kind]
/-- an expression whose value is dropped -/
def tDrop (te : TE) : TS := fun D σ H => te σ H fun _ H1 => D.nx σ H1
theorem ps_expr (he : PE X e te) (hs : swapsWith e none pos.line X.env = pure false := by rfl) : PS X (.Expr e pos) (tDrop te) := by
  intro pins s σ H D I h
  exact wpAny_Expr_any (thn (he pins s σ H _ I h) fun v s1 ⟨x, H1, I1, r1, q1⟩ => ⟨σ, H1, I1, q1⟩) I.quiet hs
def tRet (te : TE) : TS := fun D σ H => te σ H D.rt
theorem ps_ret (he : PE X e te) : PS X (.Return (some e) pos) (tRet te) := by
  intro pins s σ H D I h
  exact wpAny_Return_some (thn (he pins s σ H _ I h) fun v s1 ⟨x, H1, I1, r1, q1⟩ => ⟨x, σ, H1, I1, r1, q1⟩)
def tIfS (c : TT) (t u : TS) : TS := fun D σ H => c σ H fun b H1 => if b = true then t D σ H1 else u D σ H1
theorem ps_if {c : Expr} {a b : List Stmt} {tc : TT} (hc : PT X c tc) (ha : PSs X a t) (hb : PSs X b u) : PS X (.If c a b pos) (tIfS tc t u) := by
  intro pins s σ H D I h
  refine wpAny_If (thn (hc pins s σ H _ I h) fun d s1 ⟨H1, I1, q1⟩ => ?_)
  cases d with
  | true => exact ha pins s1 σ H1 D I1 q1
  | false => exact hb pins s1 σ H1 D I1 q1
end

/-! ### targets -/
abbrev TG := V → St → Hp → (St → Hp → Prop) → Prop
abbrev TGs := List V → St → Hp → (St → Hp → Prop) → Prop
def PG (X : Cx) (target : Expr) (t : TG) : Prop :=
  ∀ (pins : List (Addr × Obj)) (s : Shared) (σ : St) (H : Hp) (v : V) (u : Value) (Q : St → Hp → Prop), Inv X pins σ H s → RelV v u → t v σ H Q →
    wpAny (model X.prog X.w) X.A (assign target X.env u) (fun _ s' => ∃ σ' H', Inv X pins σ' H' s' ∧ Q σ' H') X.xe s
/-- several targets, one after another -/
def PGs (X : Cx) (ts : List Expr) (t : TGs) : Prop :=
  ∀ (pins : List (Addr × Obj)) (s : Shared) (σ : St) (H : Hp) (vs : List V) (us : List Value) (Q : St → Hp → Prop), Inv X pins σ H s → Vals vs us → t vs σ H Q →
    wpAny (model X.prog X.w) X.A (assignInOrder ((assignEach ts X.env).map (·.2)) us) (fun _ s' => ∃ σ' H', Inv X pins σ' H' s' ∧ Q σ' H') X.xe s
/-- o[i] = v, by values -/
abbrev TSet := V → V → V → Hp → (Hp → Prop) → Prop
def PSet (X : Cx) (t : TSet) : Prop :=
  ∀ (pins : List (Addr × Obj)) (s : Shared) (σ : St) (H : Hp) (o i v : V) (ov iv u : Value) (Q : Hp → Prop), Inv X pins σ H s → RelV o ov → RelV i iv → RelV v u → t o i v H Q →
    wpAny (model X.prog X.w) X.A (setItem ov iv u) (fun _ s' => ∃ H', Inv X pins σ H' s' ∧ Q H') X.xe s
section
variable {X : Cx} {pos : Pos}
def gName (i : Nat) : TG := fun v σ H Q => Q (σ.set i (some v)) H
theorem pg_name {i : Nat} {x : Str} (hN : X.N.Nodup) (hi : X.N[i]? = some x) (hx : Loc X.env.scope x) (hf : X.fn x = true ∨ X.env.scope.names.lookup x = some .local := by first | exact .inl rfl | exact .inr rfl | assumption) : PG X (.Name x pos) (gName i) := by
  intro pins s σ H v u Q I r h
  exact wpAny_assign_Name (store_ok I hN hi hx r (fun s' I' => ⟨_, H, I', h⟩) hf)
def gNil : TGs := fun vs σ H Q => vs = [] ∧ Q σ H
def gCons (t : TG) (u : TGs) : TGs := fun vs σ H Q => ∃ v r, vs = v :: r ∧ t v σ H fun σ' H' => u r σ' H' Q
theorem pgs_nil : PGs X [] gNil := by
  intro pins s σ H vs us Q I r h
  obtain ⟨e, h⟩ := h
  subst e
  cases r
  exact assignInOrder_nil ⟨σ, H, I, h⟩
theorem pgs_cons {e : Expr} {es : List Expr} {t : TG} {u : TGs} (h1 : PG X e t) (h2 : PGs X es u)
    (hs : (assignEach (e :: es) X.env).map (·.2) = assign e X.env :: (assignEach es X.env).map (·.2) := by rfl) : PGs X (e :: es) (gCons t u) := by
  intro pins s σ H vs us Q I r h
  obtain ⟨v, vr, e1, h⟩ := h
  subst e1
  cases r with
  | cons r rr =>
    rw [hs]
    refine assignInOrder_cons (thn (h1 pins s σ H _ _ _ I r h) fun _ s1 ⟨σ1, H1, I1, q1⟩ => ?_)
    exact h2 pins s1 σ1 H1 _ _ Q I1 rr q1
/-- (a, b, ..) = a tuple of that length -/
def gTup (K : PySem.W.Frag) (n : Nat) (t : TGs) : TG := fun v σ H Q => ∃ a xs, v = .ref a ∧ SqT K H a xs ∧ xs.length = n ∧ t xs σ H Q
theorem pg_tup {es : List Expr} {k : Nat} {t : TGs} {n : Nat} (hc : X.calm = true) (h : PGs X es t)
    (hn : (assignEach es X.env).length = n := by rfl) (hst : (assignEach es X.env).findIdx? (·.1) = none := by rfl) : PG X (.Tuple es k pos) (gTup X.K n t) := by
  intro pins s σ H v u Q I r hw
  obtain ⟨a, xs, e1, hq, hl, hw⟩ := hw
  subst e1
  cases r
  obtain ⟨its, rv, ht, hz⟩ := I.tuple hq
  refine assign_Tuple_tuple (I.ok.hd hc) ht (by simp [hn, ← hl, rv.length]) hst fun h' hx => ?_
  have I1 : Inv X pins σ H { s with heap := h' } := I.kept (t' := s.toks) fun b o e => hx b o (Nat.ne_of_lt (Heap.lt_size e)) e
  exact h pins _ σ H xs _ Q I1 (by simpa using rv) hw
/-- o[i] = .. -/
def gSub (to ti : TE) (t : TSet) : TG := fun v σ H Q => to σ H fun o H1 => ti σ H1 fun i H2 => t o i v H2 fun H3 => Q σ H3
theorem pg_sub {o i : Expr} {to ti : TE} {t : TSet} (ho : PE X o to) (hi : PE X i ti) (hs : PSet X t)
    (ha : ∀ v, assign (.Subscript o i pos) X.env v = (do
      let ov ← holding [v] (eval o X.env)
      let iv ← holding [v, ov] (eval i X.env)
      standAt pos
      holding [v, ov, iv] (setItem ov iv v)
      release [v, ov, iv] []) := by intro _; rfl) : PG X (.Subscript o i pos) (gSub to ti t) := by
  intro pins s σ H v u Q I r h
  rw [ha]
  refine wpAny_bind (wpAny_holding (thn (ho pins s σ H _ I h) fun ov s1 ⟨x, H1, I1, r1, q1⟩ => ?_))
  refine wpAny_bind (wpAny_holding (thn (hi pins s1 σ H1 _ I1 q1) fun iv s2 ⟨y, H2, I2, r2, q2⟩ => ?_))
  refine wpAny_bind (wpAny_standAt (wpAny_bind (wpAny_holding (thn (hs pins s2 σ H2 x y v ov iv u _ I2 r1 r2 r q2) fun _ s3 ⟨H3, I3, q3⟩ => ?_))))
  exact wpAny_release ⟨σ, H3, I3, q3⟩
/-- target = value -/
def tAsg (te : TE) (g : TG) : TS := fun D σ H => te σ H fun x H1 => g x σ H1 D.nx
theorem ps_asg {tg e : Expr} {te : TE} {g : TG} (he : PE X e te) (hg : PG X tg g) (hs : swapsWithSole [tg] e pos.line X.env = pure false := by rfl) (hw : swappedStores [tg] e X.env = pure none := by rfl)
    (h1 : (assignEach [tg] X.env).map (·.2) = [assign tg X.env] := by rfl) : PS X (.Assign [tg] e pos) (tAsg te g) := by
  intro pins s σ H D I h
  refine wpAny_Assign_stores (thn (he pins s σ H _ I h) fun v s1 ⟨x, H1, I1, r1, q1⟩ => ?_) hs hw
  rw [h1]
  exact thn (hg pins s1 σ H1 x v _ I1 r1 q1) fun _ s2 q => q
/-- name = value -/
theorem ps_set {i : Nat} {x : Str} {e : Expr} {te : TE} {pos' : Pos} (hN : X.N.Nodup) (hi : X.N[i]? = some x) (hx : Loc X.env.scope x) (he : PE X e te) (hs : swapsWith e (some (.Name x pos')) pos.line X.env = pure false := by rfl) (hf : X.fn x = true ∨ X.env.scope.names.lookup x = some .local := by first | exact .inl rfl | exact .inr rfl | assumption) :
    PS X (.Assign [.Name x pos'] e pos) (tAsg te (gName i)) := by
  intro pins s σ H D I h
  refine wpAny_Assign_Name (thn (he pins s σ H _ I h) fun v s1 ⟨y, H1, I1, r1, q1⟩ => ?_) hs
  exact store_ok I1 hN hi hx r1 (fun s2 I2 => ⟨_, H1, I2, q1⟩) hf
end

/-! ### while -/
section
variable {X : Cx} {pos : Pos}
/-- the invariant W with its measure -/
def tWhile (c : TT) (tb : TS) : TS := fun D σ H => ∃ W : Nat → St → Hp → Prop, (∃ m, W m σ H) ∧ ∀ m σ H, W m σ H →
  c σ H fun b H1 => if b = true then ∃ N : St → Hp → Prop, (∀ σ' H', N σ' H' → ∃ m', m' < m ∧ W m' σ' H') ∧ tb { D with nx := N, ct := N, bk := D.nx } σ H1 else D.nx σ H1
theorem ps_while {c : Expr} {body : List Stmt} {tc : TT} {tb : TS} (hp : PassesOwn (model X.prog X.w) X.A X.env X.xe) (hc : PT X c tc) (hb : PSs X body tb) : PS X (.While c body [] pos) (tWhile tc tb) := by
  intro pins s σ H D I h
  obtain ⟨W, ⟨m0, w0⟩, turn⟩ := h
  refine wpAny_While (codeAny_whileLoop (fun n s' => ∃ σ' H', Inv X pins σ' H' s' ∧ W n σ' H') ?_ m0 ⟨σ, H, I, w0⟩)
  rintro n s1 ⟨σ1, H1, I1, w1⟩
  refine wpAny_passesOwn hp (thn (hc pins s1 σ1 H1 _ I1 (turn n σ1 H1 w1)) fun b s2 ⟨H2, I2, q2⟩ => ?_)
  cases b with
  | true =>
    obtain ⟨N, hN, q2⟩ := q2
    rw [if_pos rfl]
    refine wpAny_passesOwn hp (thn (hb pins s2 σ1 H2 _ I2 q2) fun f s3 q3 => ?_)
    cases f with
    | next =>
      obtain ⟨σ3, H3, I3, n3⟩ := q3
      obtain ⟨m', hm, w3⟩ := hN σ3 H3 n3
      exact ⟨m', hm, σ3, H3, I3, w3⟩
    | cont =>
      obtain ⟨σ3, H3, I3, n3⟩ := q3
      obtain ⟨m', hm, w3⟩ := hN σ3 H3 n3
      exact ⟨m', hm, σ3, H3, I3, w3⟩
    | brk => exact q3
    | ret v => exact q3
  | false =>
    rw [if_neg Bool.false_ne_true]
    exact wpAny_execs_nil ⟨σ1, H2, I2, q2⟩
end

/-! ### what a loop or a comprehension walks -/
/-- at turn i: it yields x (the heap may grow), or it stops -/
structure It where
  go : Nat → Hp → Prop
  yld : Nat → Hp → V → Hp → Prop
  stop : Nat → Hp → Prop
/-- the iterator's own objects may turn: they are not the frame's, not pinned, younger than the entry (or a comprehension's own) -/
def FpOk (X : Cx) (pins : List (Addr × Obj)) (H : Hp) (b : Addr) : Prop :=
  H b = none ∧ b ≠ X.env.locals ∧ b ∉ X.fs ∧ (b ∈ X.ex ∨ X.s₀.heap.objs.size ≤ b) ∧ (∀ x c, X.env.cells.lookup x = some c → c ≠ b) ∧ ∀ p ∈ X.pn ++ pins, p.1 ≠ b
theorem Inv.fpOk {X : Cx} {pins : List (Addr × Obj)} {σ : St} {H H' : Hp} {s : Shared} {b : Addr} (I : Inv X pins σ H s) (hb : s.heap.objs.size ≤ b) (hn : H' b = none) : FpOk X pins H' b := by
  refine ⟨hn, Nat.ne_of_gt (Nat.lt_of_lt_of_le I.lt hb), I.nofs hb, .inr (Nat.le_trans I.sz hb), fun x c e z => ?_, fun p hp z => ?_⟩
  · obtain ⟨v, q⟩ := I.cell x c e
    exact absurd (Nat.lt_of_lt_of_le q.lt (by rw [z]; exact hb)) (Nat.lt_irrefl _)
  · exact absurd (Nat.lt_of_lt_of_le (Heap.lt_size (I.pin p hp).1) (by rw [z]; exact hb)) (Nat.lt_irrefl _)
structure Turn (P : Program) (w : World) (K : PySem.W.Frag) (tg : Expr) (J : It) (fp : List Addr) (it : Addr) (tn : Nat → Heap → Prop) : Prop where
  mem : it ∈ fp
  obj : ∀ i h, tn i h → ∀ b ∈ fp, ∃ o, h.get? b = some o ∧ ∀ v, o.data ≠ .cell v
  keep : ∀ i h h', tn i h → (∀ b ∈ fp, ∀ o, h.get? b = some o → h'.get? b = some o) → tn i h'
  item : ∀ (X : Cx), X.prog = P → X.w = w → X.K = K → X.calm = true → ∀ (i : Nat) (pins : List (Addr × Obj)) (s : Shared) (σ : St) (H : Hp) (E : Value → Shared → Prop), Inv X pins σ H s → (∀ b ∈ fp, FpOk X pins H b) → tn i s.heap → J.go i H →
    wpAny (model P w) X.A (pyNext (.ref it)) (fun r s1 => ∃ u, r = some u ∧
      wpAny (model P w) X.A (letOwnedTupleGo tg (.ref it) u) (fun _ s2 => ∃ x H', Inv X pins σ H' s2 ∧ RelV x u ∧ J.yld i H x H' ∧ tn (i + 1) s2.heap ∧ ∀ b ∈ fp, H' b = none) E s1) E s
  done : ∀ (X : Cx), X.prog = P → X.w = w → X.K = K → X.calm = true → ∀ (i : Nat) (pins : List (Addr × Obj)) (s : Shared) (σ : St) (H : Hp) (E : Value → Shared → Prop), Inv X pins σ H s → (∀ b ∈ fp, FpOk X pins H b) → tn i s.heap → J.stop i H →
    wpAny (model P w) X.A (pyNext (.ref it)) (fun r s1 => r = none ∧ Inv X pins σ H s1) E s
  self : ∀ (A : Around) (i : Nat) (s : Shared) (Q : Value → Shared → Prop) (E : Value → Shared → Prop), tn i s.heap → Q (.ref it) s → wpAny (model P w) A (pyIter (.ref it)) Q E s
abbrev TI := St → Hp → (It → Hp → Prop) → Prop
/-- an iterator has come -/
def PIE (X : Cx) (pins : List (Addr × Obj)) (σ : St) (tg : Expr) (R : It → Hp → Prop) (itv : Value) (s2 : Shared) : Prop :=
  ∃ (it : Addr) (fp : List Addr) (tn : Nat → Heap → Prop) (J : It) (H' : Hp), itv = .ref it ∧ Inv X pins σ H' s2 ∧ Turn X.prog X.w X.K tg J fp it tn ∧ tn 0 s2.heap ∧ (∀ b ∈ fp, FpOk X pins H' b) ∧ R J H'
def PI (X : Cx) (tg iter : Expr) (wi : TI) : Prop :=
  ∀ (pins : List (Addr × Obj)) (s : Shared) (σ : St) (H : Hp) (R : It → Hp → Prop), Inv X pins σ H s → wi σ H R →
    wpAny (model X.prog X.w) X.A (eval iter X.env) (fun v s1 => wpAny (model X.prog X.w) X.A (pyIter v) (PIE X pins σ tg R) X.xe s1) X.xe s

/-- the step ahead of the store is nothing for an iterator that keeps no tuple -/
theorem go_of {M : Model} {A : Around} {E : Value → Shared → Prop} {s : Shared} {tg : Expr} {it : Addr} {u : Value} {o : Obj} {n : String} {vs : Array Value} {Q : Unit → Shared → Prop} (ho : s.heap.get? it = some o) (hc : o.cls = .type n) (hd : o.data = .fields vs)
    (hn : ["enumerate", "zip", "dict_itemiterator", "dict_reverseitemiterator", "odict_iterator", "itertools.zip_longest", "itertools.pairwise"].contains n = false) (hQ : Q () s) : wpAny M A (letOwnedTupleGo tg (.ref it) u) Q E s := by
  unfold letOwnedTupleGo
  cases tg <;> first
    | exact wpAny_pure hQ
    | (cases u <;> first
        | exact wpAny_pure hQ
        | (refine wpAny_bind (wpAny_load ho ?_)
           rw [hc, hd]
           show wpAny M A (if (["enumerate", "zip", "dict_itemiterator", "dict_reverseitemiterator", "odict_iterator", "itertools.zip_longest", "itertools.pairwise"].contains n && vs[0]? == some (rawInt _)) = true then _ else _) Q E s
           rw [if_neg (by intro h; rw [hn, Bool.false_and] at h; cases h)]
           exact wpAny_pure hQ))

/-- the list at a, as it stands at each turn (a loop may append to it) -/
def Itl (K : PySem.W.Frag) (a : Addr) : It :=
  ⟨fun i H => ∃ xs x, SqL K H a xs ∧ xs[i]? = some x, fun i H x H' => H' = H ∧ ∀ xs, SqL K H a xs → xs[i]? = some x, fun i H => ∃ xs, SqL K H a xs ∧ xs.length ≤ i⟩
/-- lo, lo + 1, .. (n of them) -/
def Itr (lo : Int) (n : Nat) : It := ⟨fun i _ => i < n, fun i H x H' => H' = H ∧ x = .int (lo + i), fun i _ => n ≤ i⟩
theorem turn_list {P : Program} {w : World} {K : PySem.W.Frag} {tg : Expr} (a it : Addr) : Turn P w K tg (Itl K a) [it] it (fun i h => h.IsListIter it a i) where
  mem := by simp
  obj := fun i h st b hb => by
    have e : b = it := by simpa using hb
    subst e
    obtain ⟨o, e, c, d⟩ := st
    exact ⟨o, e, fun v z => by rw [d] at z; cases z⟩
  keep := fun i h h' st k => st.at fun o e => k it (by simp) o e
  item := by
    intro X hP hw hK hc i pins s σ H E I hf st hg
    subst hP hw hK
    obtain ⟨xs, x, hq, hx⟩ := hg
    obtain ⟨its, rv, p, hz⟩ := I.list hq
    obtain ⟨u, hu, ru⟩ := rv.get hx
    obtain ⟨f0, f1, f2, f3, f4, f5⟩ := hf it (by simp)
    refine wpAny_pyNext_list_item st p.isList (x := u) (by simpa using hu) fun h' st' sb => ?_
    have I1 : Inv X pins σ H { s with heap := h' } := I.turned (t' := s.toks) (fun b o hb e => (sb.2 b hb).trans e) f0 f1 f3 f4 f5
    obtain ⟨o, e, c, d⟩ := id st'
    exact ⟨u, rfl, go_of (s := { s with heap := h' }) e c d (by decide) ⟨x, H, I1, ru, ⟨rfl, fun ys hy => by rw [I.list_inj hy hq]; exact hx⟩, st', fun b hb => (hf b hb).1⟩⟩
  done := by
    intro X hP hw hK hc i pins s σ H E I hf st hg
    subst hP hw hK
    obtain ⟨xs, hq, hx⟩ := hg
    obtain ⟨its, rv, p, hz⟩ := I.list hq
    obtain ⟨f0, f1, f2, f3, f4, f5⟩ := hf it (by simp)
    have hl := rv.length
    exact wpAny_pyNext_list_end (I.ok.hd hc) st p.isList (by simp; omega) fun h' eb => ⟨rfl, I.turned (t' := s.toks) (fun b o hb e => eb b o hb e) f0 f1 f3 f4 f5⟩
  self := fun _ _ _ _ _ st h => wpAny_pyIter_listiter st h
theorem turn_range {P : Program} {w : World} {K : PySem.W.Frag} {tg : Expr} (it : Addr) (lo : Int) (n : Nat) : Turn P w K tg (Itr lo n) [it] it (fun i h => IsRangeIter h it (lo + (i : Nat) * 1) ((n : Int) - (i : Nat)) 1) where
  mem := by simp
  obj := fun i h st b hb => by
    have e : b = it := by simpa using hb
    subst e
    exact ⟨_, st, fun v z => by
      have z' : Data.fields _ = Data.cell v := z
      cases z'⟩
  keep := fun i h h' st k => k it (by simp) _ st
  item := by
    intro X hP hw hK hc i pins s σ H E I hf st hg
    subst hP hw hK
    obtain ⟨f0, f1, f2, f3, f4, f5⟩ := hf it (by simp)
    have W := Walks.range (prog := X.prog) (w := X.w) (I.ok.hd hc) it lo 1 n
    refine W.item i s _ _ hg st fun v h' tk hv st' kk => ?_
    obtain ⟨t, rfl⟩ := hv
    have I1 : Inv X pins σ H { s with heap := h', toks := tk } := I.turned (fun b o hb e => kk b o (by simpa using hb) e) f0 f1 f3 f4 f5
    refine ⟨_, rfl, go_of (s := { s with heap := h', toks := tk }) (n := "range_iterator") st' rfl rfl (by decide) ⟨.int (lo + i), H, I1, ⟨t, ?_⟩, ⟨rfl, rfl⟩, st', fun b hb => (hf b hb).1⟩⟩
    rw [Int.mul_one]
  done := by
    intro X hP hw hK hc i pins s σ H E I hf st hg
    subst hP hw hK
    obtain ⟨f0, f1, f2, f3, f4, f5⟩ := hf it (by simp)
    exact wpAny_pyNext_range_end (I.ok.hd hc) st (by have : n ≤ i := hg; omega) fun h' eb => ⟨rfl, I.turned (t' := s.toks) (fun b o hb e => eb b o hb e) f0 f1 f3 f4 f5⟩
  self := fun _ _ _ _ _ st h => wpAny_pyIter_rangeiter st h
end L2

namespace L2
open PySem PySem.Spec PyProof.Rows
section
variable {X : Cx} {tg : Expr}
def iList (K : PySem.W.Frag) (tl : TE) : TI := fun σ H R => tl σ H fun x H1 => ∃ a, x = .ref a ∧ (∃ xs, SqL K H1 a xs) ∧ R (Itl K a) H1
theorem pi_list {l : Expr} {tl : TE} (hl : PE X l tl) : PI X tg l (iList X.K tl) := by
  intro pins s σ H R I h
  refine thn (hl pins s σ H _ I h) fun v s1 ⟨x, H1, I1, r1, q1⟩ => ?_
  obtain ⟨a, e, ⟨xs, hq⟩, q⟩ := q1
  subst e
  cases r1
  obtain ⟨its, rv, p, hz⟩ := I1.list hq
  refine wpAny_pyIter_list p.isList ?_
  refine ⟨s1.heap.objs.size, [s1.heap.objs.size], _, _, H1, rfl, I1.kept (t' := s1.toks) fun b o e => Heap.get?_push_of_some _ e, turn_list a _, ⟨_, Heap.get?_push_size _ rfl, rfl, rfl⟩, fun b hb => ?_, q⟩
  have e : b = s1.heap.objs.size := by simpa using hb
  subst e
  exact I1.fpOk (Nat.le_refl _) (I1.hok.fresh (Nat.le_refl _))
/-- a range object just made, walked -/
theorem range_it {pins : List (Addr × Obj)} {σ : St} {H : Hp} {s : Shared} {R : It → Hp → Prop} {E : Value → Shared → Prop} {lo hi : Int} {t u v : Tok} {tk : Nat} (I : Inv X pins σ H s) (h1 : -(2 ^ 62) ≤ lo) (h2 : lo < 2 ^ 62) (h3 : -(2 ^ 62) ≤ hi) (h4 : hi < 2 ^ 62)
    (q : R (Itr lo (hi - lo).toNat) H) : wpAny (model X.prog X.w) X.A (pyIter (.ref s.heap.objs.size)) (PIE X pins σ tg R) E { s with heap := s.heap.push { cls := .type "range", data := .fields #[.int lo t, .int hi u, .int 1 v] }, toks := tk } := by
  refine wpAny_pyIter_range (IsRange.new ..) (small_one h1 h2 h3 h4) ?_
  have I1 : Inv X pins σ H { s with heap := s.heap.push { cls := .type "range", data := .fields #[.int lo t, .int hi u, .int 1 v] }, toks := tk } := I.kept fun b o e => Heap.get?_push_of_some _ e
  refine ⟨(s.heap.push { cls := .type "range", data := .fields #[.int lo t, .int hi u, .int 1 v] }).objs.size, [(s.heap.push { cls := .type "range", data := .fields #[.int lo t, .int hi u, .int 1 v] }).objs.size], _, _, H, rfl,
    I1.kept (t' := tk) fun b o e => Heap.get?_push_of_some _ e, turn_range _ lo (hi - lo).toNat, ?_, fun b hb => ?_, q⟩
  · have e1 : lo + ((0 : Nat) : Int) * 1 = lo := by simp
    have e2 : (((hi - lo).toNat : Nat) : Int) - ((0 : Nat) : Int) = Builtin.Range.rangeSize lo hi 1 := by rw [rangeSize_one]; split <;> omega
    show IsRangeIter _ _ (lo + ((0 : Nat) : Int) * 1) ((((hi - lo).toNat : Nat) : Int) - ((0 : Nat) : Int)) 1
    rw [e1, e2]
    exact Heap.get?_push_size _ rfl
  · have e : b = (s.heap.push { cls := .type "range", data := .fields #[.int lo t, .int hi u, .int 1 v] }).objs.size := by simpa using hb
    subst e
    exact I1.fpOk (Nat.le_refl _) (I1.hok.fresh (Nat.le_refl _))
def iRng1 (ta : TA) : TI := fun σ H R => ta σ H fun vs H1 => ∃ j : Int, vs = [.int j] ∧ -(2 ^ 62) ≤ j ∧ j < 2 ^ 62 ∧ R (Itr 0 j.toNat) H1
def iRng2 (ta : TA) : TI := fun σ H R => ta σ H fun vs H1 => ∃ i j : Int, vs = [.int i, .int j] ∧ (-(2 ^ 62) ≤ i ∧ i < 2 ^ 62 ∧ -(2 ^ 62) ≤ j ∧ j < 2 ^ 62) ∧ R (Itr i (j - i).toNat) H1
theorem pi_range1 {a : Expr} {ta : TA} {p pos : Pos} (hg : Gl X "range") (hm : X.mg "range" = none) (ha : PA X [a] ta) (hs : starEach [a] X.env = [(false, eval a X.env)] := by rfl) : PI X tg (.Call (.Name "range" p) [a] [] pos) (iRng1 ta) := by
  intro pins s σ H R I h
  refine Call_ (ld_blt I hg hm boot_range (PyProof.Rows.callWith_type1 (thn (ha pos pins s σ H _ I h) fun us s1 ⟨vs, H1, I1, r1, q1⟩ => ?_) hs rfl))
  obtain ⟨j, e, q1, q2, q⟩ := q1
  subst e
  cases r1 with
  | cons r rr =>
    cases rr
    obtain ⟨t, rfl⟩ := r
    exact call_range_1 (range_it I1 (by omega) (by omega) q1 q2 (by simpa using q))
theorem pi_range2 {a b : Expr} {ta : TA} {p pos : Pos} (hg : Gl X "range") (hm : X.mg "range" = none) (ha : PA X [a, b] ta) (hs : starEach [a, b] X.env = [(false, eval a X.env), (false, eval b X.env)] := by rfl) (hs2 : starEach [b] X.env = [(false, eval b X.env)] := by rfl) :
    PI X tg (.Call (.Name "range" p) [a, b] [] pos) (iRng2 ta) := by
  intro pins s σ H R I h
  refine Call_ (ld_blt I hg hm boot_range (PyProof.Rows.callWith_type1 (thn (ha pos pins s σ H _ I h) fun us s1 ⟨vs, H1, I1, r1, q1⟩ => ?_) (by rw [hs, hs2]) (by rw [hs2]; rfl)))
  obtain ⟨i, j, e, ⟨q1, q2, q3, q4⟩, q⟩ := q1
  subst e
  cases r1 with
  | cons r rr =>
    cases rr with
    | cons r' rr =>
      cases rr
      obtain ⟨t, rfl⟩ := r
      obtain ⟨t', rfl⟩ := r'
      exact call_range_2 (range_it I1 q1 q2 q3 q4 q)

/-! ### for -/
/-- W: the invariant by the turn and a measure; N: what the body is to reach -/
def tFor (wi : TI) (g : TG) (tb : TS) : TS := fun D σ H => wi σ H fun J H1 => ∃ W : Nat → Nat → St → Hp → Prop, (∃ m, W 0 m σ H1) ∧ ∀ i m σ H, W i m σ H →
  (J.stop i H ∧ D.nx σ H) ∨ (J.go i H ∧ ∃ N : St → Hp → Prop, (∀ σ' H', N σ' H' → ∃ m', m' < m ∧ W (i + 1) m' σ' H') ∧ ∀ x H', J.yld i H x H' → g x σ H' fun σ2 H2 => tb { D with nx := N, ct := N, bk := D.nx } σ2 H2)
/-- the records at fp as they stand -/
def pinsAt (fp : List Addr) (h : Heap) : List (Addr × Obj) := fp.filterMap fun b => (h.get? b).map fun o => (b, o)
theorem mem_pinsAt {fp : List Addr} {h : Heap} {b : Addr} {o : Obj} (hb : b ∈ fp) (e : h.get? b = some o) : (b, o) ∈ pinsAt fp h := List.mem_filterMap.mpr ⟨b, hb, by rw [e]; rfl⟩
theorem of_pinsAt {fp : List Addr} {h : Heap} {p : Addr × Obj} (hp : p ∈ pinsAt fp h) : p.1 ∈ fp ∧ h.get? p.1 = some p.2 := by
  obtain ⟨b, hb, e⟩ := List.mem_filterMap.mp hp
  cases q : h.get? b with
  | none => rw [q] at e; cases e
  | some o =>
    rw [q] at e
    have e' : (b, o) = p := Option.some.inj e
    subst e'
    exact ⟨hb, q⟩
theorem Inv.pinned {pins : List (Addr × Obj)} {σ : St} {H : Hp} {s : Shared} {fp : List Addr} (I : Inv X pins σ H s) (hf : ∀ b ∈ fp, FpOk X pins H b) (ho : ∀ b ∈ fp, ∃ o, s.heap.get? b = some o ∧ ∀ v, o.data ≠ .cell v) : Inv X (pins ++ pinsAt fp s.heap) σ H s :=
  I.pins_of fun p hp => (List.mem_append.mp hp).elim (fun z => I.pin p (List.mem_append_right _ z)) fun z => by
    obtain ⟨hb, e⟩ := of_pinsAt z
    obtain ⟨f0, f1, f2, _⟩ := hf p.1 hb
    obtain ⟨o, e', d⟩ := ho p.1 hb
    rw [e] at e'; cases e'
    exact ⟨e, f0, f1, f2, d⟩
theorem Inv.unpinned {pins pl : List (Addr × Obj)} {σ : St} {H : Hp} {s : Shared} (I : Inv X (pins ++ pl) σ H s) : Inv X pins σ H s := I.pins_of fun p hp => I.pin p (List.mem_append_right _ (List.mem_append_left _ hp))
theorem ps_for {iter : Expr} {body : List Stmt} {wi : TI} {g : TG} {tb : TS} {pos : Pos} (hp : PassesOwn (model X.prog X.w) X.A X.env X.xe) (hc : X.calm = true) (hi : PI X tg iter wi) (hg : PG X tg g) (hb : PSs X body tb)
    (hs : ∀ x, foldedSetIterable iter X.env x = pure x := by intro _; rfl) : PS X (.For tg iter body [] pos) (tFor wi g tb) := by
  intro pins s σ H D I h
  refine wpAny_For (thn (hi pins s σ H _ I h) fun v s1 h1 => thn h1 fun itv s2 h2 => ?_) hs
  obtain ⟨it, fp, tn, J, H2, e, I2, T, st2, f2, W, ⟨m0, w0⟩, turn⟩ := h2
  subst e
  -- what stays true of the iterator's objects through the loop
  have stat : ∀ {H' : Hp}, (∀ b ∈ fp, H' b = none) → ∀ b ∈ fp, FpOk X pins H' b := fun hn b hb => ⟨hn b hb, (f2 b hb).2⟩
  refine codeAny_forLoop_any (fun n s' => ∃ i σ' H', Inv X pins σ' H' s' ∧ tn i s'.heap ∧ (∀ b ∈ fp, H' b = none) ∧ W i n σ' H') ?_ m0 ⟨0, σ, H2, I2, st2, fun b hb => (f2 b hb).1, w0⟩
  rintro n s3 ⟨i, σ3, H3, I3, st3, fr3, w3⟩
  rcases turn i n σ3 H3 w3 with ⟨stop, qn⟩ | ⟨go, N, hN, step⟩
  · refine wpAny_passesOwn hp (thn (T.done X rfl rfl rfl hc i pins s3 σ3 H3 X.xe I3 (stat fr3) st3 stop) fun r s4 ⟨hr, I4⟩ => ?_)
    subst hr
    exact wpAny_execs_nil ⟨σ3, H3, I4, qn⟩
  · refine wpAny_passesOwn hp (thn (T.item X rfl rfl rfl hc i pins s3 σ3 H3 X.xe I3 (stat fr3) st3 go) fun r s4 ⟨u, hr, h4⟩ => ?_)
    subst hr
    refine wpAny_passesOwn hp (thn h4 fun _ s5 ⟨x, H5, I5, r5, y5, st5, fr5⟩ => ?_)
    have I5' := I5.pinned (stat fr5) (T.obj _ _ st5)
    refine wpAny_passesOwn hp (thn (hg _ s5 σ3 H5 x u _ I5' r5 (step x H5 y5)) fun _ s6 ⟨σ6, H6, I6, q6⟩ => ?_)
    refine wpAny_passesOwn hp (thn (hb _ s6 σ6 H6 _ I6 q6) fun f s7 q7 => ?_)
    have again : ∀ {σ7 : St} {H7 : Hp}, Inv X (pins ++ pinsAt fp s5.heap) σ7 H7 s7 → N σ7 H7 → ∃ m, m < n ∧ ∃ i σ' H', Inv X pins σ' H' s7 ∧ tn i s7.heap ∧ (∀ b ∈ fp, H' b = none) ∧ W i m σ' H' := fun {σ7 H7} I7 n7 => by
      obtain ⟨m', hm, w7⟩ := hN σ7 H7 n7
      refine ⟨m', hm, i + 1, σ7, H7, I7.unpinned, T.keep _ _ _ st5 fun b hb o e => (I7.pin (b, o) (List.mem_append_right _ (List.mem_append_right _ (mem_pinsAt hb e)))).1, fun b hb => ?_, w7⟩
      obtain ⟨o, e, d⟩ := T.obj _ _ st5 b hb
      exact (I7.pin (b, o) (List.mem_append_right _ (List.mem_append_right _ (mem_pinsAt hb e)))).2.1
    cases f with
    | next => obtain ⟨σ7, H7, I7, n7⟩ := q7; exact again I7 n7
    | cont => obtain ⟨σ7, H7, I7, n7⟩ := q7; exact again I7 n7
    | brk => obtain ⟨σ7, H7, I7, q7⟩ := q7; exact ⟨σ7, H7, I7.unpinned, q7⟩
    | ret v => obtain ⟨x7, σ7, H7, I7, r7, q7⟩ := q7; exact ⟨x7, σ7, H7, I7.unpinned, r7, q7⟩
end

/-! ### the forms one uses -/
/-- over a list that the body leaves as it is -/
theorem for_list {K : PySem.W.Frag} {a : Addr} {xs : List V} {g : TG} {tb : TS} {D : Ends} {σ : St} {H : Hp} (Pv : Nat → St → Hp → Prop) (h0 : Pv 0 σ H) (hl : ∀ i σ H, i ≤ xs.length → Pv i σ H → SqL K H a xs)
    (hs : ∀ i x σ H, xs[i]? = some x → Pv i σ H → g x σ H fun σ2 H2 => tb { D with nx := Pv (i + 1), ct := Pv (i + 1), bk := D.nx } σ2 H2) (hd : ∀ σ H, Pv xs.length σ H → D.nx σ H) :
    ∃ W : Nat → Nat → St → Hp → Prop, (∃ m, W 0 m σ H) ∧ ∀ i m σ H, W i m σ H →
      ((Itl K a).stop i H ∧ D.nx σ H) ∨ ((Itl K a).go i H ∧ ∃ N : St → Hp → Prop, (∀ σ' H', N σ' H' → ∃ m', m' < m ∧ W (i + 1) m' σ' H') ∧ ∀ x H', (Itl K a).yld i H x H' → g x σ H' fun σ2 H2 => tb { D with nx := N, ct := N, bk := D.nx } σ2 H2) := by
  refine ⟨fun i m σ H => m = xs.length - i ∧ i ≤ xs.length ∧ Pv i σ H, ⟨xs.length, by simp, Nat.zero_le _, h0⟩, ?_⟩
  rintro i m σ H ⟨rfl, hi, p⟩
  have q := hl i σ H hi p
  by_cases hlt : i < xs.length
  · refine .inr ⟨⟨xs, xs[i], q, by simp [hlt]⟩, Pv (i + 1), fun σ' H' p' => ⟨xs.length - (i + 1), by omega, rfl, hlt, p'⟩, fun x H' y => ?_⟩
    obtain ⟨e, y⟩ := y
    subst e
    exact hs i x σ _ (y xs q) p
  · have e : i = xs.length := by omega
    subst e
    exact .inl ⟨⟨xs, q, Nat.le_refl _⟩, hd σ H p⟩
theorem for_range {lo : Int} {n : Nat} {g : TG} {tb : TS} {D : Ends} {σ : St} {H : Hp} (Pv : Nat → St → Hp → Prop) (h0 : Pv 0 σ H)
    (hs : ∀ i σ H, i < n → Pv i σ H → g (.int (lo + i)) σ H fun σ2 H2 => tb { D with nx := Pv (i + 1), ct := Pv (i + 1), bk := D.nx } σ2 H2) (hd : ∀ σ H, Pv n σ H → D.nx σ H) :
    ∃ W : Nat → Nat → St → Hp → Prop, (∃ m, W 0 m σ H) ∧ ∀ i m σ H, W i m σ H →
      ((Itr lo n).stop i H ∧ D.nx σ H) ∨ ((Itr lo n).go i H ∧ ∃ N : St → Hp → Prop, (∀ σ' H', N σ' H' → ∃ m', m' < m ∧ W (i + 1) m' σ' H') ∧ ∀ x H', (Itr lo n).yld i H x H' → g x σ H' fun σ2 H2 => tb { D with nx := N, ct := N, bk := D.nx } σ2 H2) := by
  refine ⟨fun i m σ H => m = n - i ∧ i ≤ n ∧ Pv i σ H, ⟨n, by simp, Nat.zero_le _, h0⟩, ?_⟩
  rintro i m σ H ⟨rfl, hi, p⟩
  by_cases hlt : i < n
  · refine .inr ⟨hlt, Pv (i + 1), fun σ' H' p' => ⟨n - (i + 1), by omega, rfl, hlt, p'⟩, fun x H' y => ?_⟩
    obtain ⟨e, y⟩ := y
    subst e y
    exact hs i σ _ hlt p
  · have e : i = n := by omega
    subst e
    exact .inl ⟨Nat.le_refl _, hd σ H p⟩
end L2

namespace L2
open PySem PySem.Spec PyProof.Rows

abbrev R2 := V → V → Hp → VK → Prop
/-- a two-place operation on values: f is binaryOp op, inplaceOp op or compareOp op -/
def OpR (X : Cx) (f : Value → Value → Sem Value) (r : R2) : Prop :=
  ∀ (pins : List (Addr × Obj)) (s : Shared) (σ : St) (H : Hp) (x y : V) (v u : Value) (Q : VK), Inv X pins σ H s → RelV x v → RelV y u → r x y H Q →
    wpAny (model X.prog X.w) X.A (f v u) (EP X pins σ Q) X.xe s
/-- a one-place operation -/
def UnR (X : Cx) (f : Value → Sem Value) (r : V → Hp → VK → Prop) : Prop :=
  ∀ (pins : List (Addr × Obj)) (s : Shared) (σ : St) (H : Hp) (x : V) (v : Value) (Q : VK), Inv X pins σ H s → RelV x v → r x H Q →
    wpAny (model X.prog X.w) X.A (f v) (EP X pins σ Q) X.xe s
/-- a call of a value that is known (a builtin, a type) with values -/
def CallR (X : Cx) (f : Value) (r : List V → Hp → VK → Prop) : Prop :=
  ∀ (pins : List (Addr × Obj)) (s : Shared) (σ : St) (H : Hp) (xs : List V) (us : List Value) (Q : VK), Inv X pins σ H s → Vals xs us → r xs H Q →
    wpAny (model X.prog X.w) X.A (call f us) (EP X pins σ Q) X.xe s
def tOp (r : R2) (ta tb : TE) : TE := fun σ H Q => ta σ H fun x H1 => tb σ H1 fun y H2 => r x y H2 Q
def tUn (r : V → Hp → VK → Prop) (ta : TE) : TE := fun σ H Q => ta σ H fun x H1 => r x H1 Q
/-- ints in, under C, and a value out -/
def rI (C : Int → Int → Prop) (g : Int → Int → V) : R2 := fun x y H Q => ∃ i j, x = .int i ∧ y = .int j ∧ C i j ∧ Q (g i j) H
def rI0 (g : Int → Int → V) : R2 := fun x y H Q => ∃ i j, x = .int i ∧ y = .int j ∧ Q (g i j) H
def rU (g : Int → V) : V → Hp → VK → Prop := fun x H Q => ∃ i, x = .int i ∧ Q (g i) H

section
variable {X : Cx} {a b c : Expr} {ta tb tc : TE} {pos : Pos}

theorem binT (ha : PE X a ta) (hb : PE X b tb) {pins : List (Addr × Obj)} {s : Shared} {σ : St} {H : Hp} {R : V → V → Hp → Prop} (I : Inv X pins σ H s)
    (h : ta σ H fun x H1 => tb σ H1 fun y H2 => R x y H2) {Q : Value → Shared → Prop} {f : Value → Value → Sem Value}
    (hf : ∀ v u s2 x y H2, Inv X pins σ H2 s2 → RelV x v → RelV y u → R x y H2 → wpAny (model X.prog X.w) X.A (f v u) Q X.xe s2) :
    wpAny (model X.prog X.w) X.A (eval a X.env) (fun v s₁ => wpAny (model X.prog X.w) X.A (eval b X.env) (fun u s₂ => wpAny (model X.prog X.w) X.A (f v u) Q X.xe s₂) X.xe s₁) X.xe s := by
  refine thn (ha pins s σ H _ I h) fun v s1 ⟨x, H1, I1, r1, q1⟩ => ?_
  refine thn (hb pins s1 σ H1 _ I1 q1) fun u s2 ⟨y, H2, I2, r2, q2⟩ => ?_
  exact hf v u s2 x y H2 I2 r1 r2 q2

theorem pe_op {op : Operator} {r : R2} (ho : OpR X (binaryOp op) r) (ha : PE X a ta) (hb : PE X b tb) : PE X (.BinOp a op b pos) (tOp r ta tb) := by
  intro pins s σ H Q I h
  exact wpAny_BinOp (binT ha hb I h fun v u s2 x y H2 I2 rx ry q => ho pins s2 σ H2 x y v u Q I2 rx ry q)
theorem pe_un {op : UnaryOp} {r : V → Hp → VK → Prop} (ho : UnR X (unaryOp op) r) (ha : PE X a ta) : PE X (.UnaryOp op a pos) (tUn r ta) := by
  intro pins s σ H Q I h
  exact UnaryOp_ (thn (ha pins s σ H _ I h) fun v s1 ⟨x, H1, I1, r1, q1⟩ => ho pins s1 σ H1 x v Q I1 r1 q1)
/-! ### ints -/
theorem opI {f : Value → Value → Sem Value} {C : Int → Int → Prop} {g : Int → Int → Int}
    (rule : ∀ (i j : Int) (t u : Tok) (s : Shared) (Q : Value → Shared → Prop) (E : Value → Shared → Prop), C i j → Q (.int (g i j) s.toks) { s with toks := s.toks + 1 } → wpAny (model X.prog X.w) X.A (f (.int i t) (.int j u)) Q E s) :
    OpR X f (rI C fun i j => .int (g i j)) := by
  intro pins s σ H x y v u Q I rx ry h
  obtain ⟨i, j, rfl, rfl, hc, q⟩ := h
  obtain ⟨t, rfl⟩ := rx
  obtain ⟨t', rfl⟩ := ry
  exact rule i j t t' s _ _ hc ⟨.int (g i j), H, I.tok _, ⟨_, rfl⟩, q⟩
theorem opI0 {f : Value → Value → Sem Value} {g : Int → Int → Int}
    (rule : ∀ (i j : Int) (t u : Tok) (s : Shared) (Q : Value → Shared → Prop) (E : Value → Shared → Prop), Q (.int (g i j) s.toks) { s with toks := s.toks + 1 } → wpAny (model X.prog X.w) X.A (f (.int i t) (.int j u)) Q E s) :
    OpR X f (rI0 fun i j => .int (g i j)) := by
  intro pins s σ H x y v u Q I rx ry h
  obtain ⟨i, j, rfl, rfl, q⟩ := h
  obtain ⟨t, rfl⟩ := rx
  obtain ⟨t', rfl⟩ := ry
  exact rule i j t t' s _ _ ⟨.int (g i j), H, I.tok _, ⟨_, rfl⟩, q⟩
theorem opB0 {f : Value → Value → Sem Value} {g : Int → Int → Bool}
    (rule : ∀ (i j : Int) (t u : Tok) (s : Shared) (Q : Value → Shared → Prop) (E : Value → Shared → Prop), Q (.bool (g i j)) s → wpAny (model X.prog X.w) X.A (f (.int i t) (.int j u)) Q E s) :
    OpR X f (rI0 fun i j => .bl (g i j)) := by
  intro pins s σ H x y v u Q I rx ry h
  obtain ⟨i, j, rfl, rfl, q⟩ := h
  obtain ⟨t, rfl⟩ := rx
  obtain ⟨t', rfl⟩ := ry
  exact rule i j t t' s _ _ ⟨.bl (g i j), H, I, rfl, q⟩

def CDiv (i j : Int) : Prop := 0 < j ∧ j < 1073741824
def CPow (i j : Int) : Prop := 0 ≤ j ∧ j ≤ 1000000 ∧ i.natAbs < 2 ^ 64
def CMul (i j : Int) : Prop := (-(2 ^ 64) < i ∧ i < 2 ^ 64) ∨ (-(2 ^ 64) < j ∧ j < 2 ^ 64)
theorem CMul.ok {i j : Int} (h : CMul i j) : IntMulOk i j := by
  rcases h with ⟨h1, h2⟩ | ⟨h1, h2⟩
  · exact .of_left (intBits_le_64 h1 h2)
  · exact .of_right (intBits_le_64 h1 h2)
theorem op_add : OpR X (binaryOp .Add) (rI0 fun i j => .int (i + j)) := opI0 fun _ _ _ _ _ _ _ q => add_int q
theorem op_sub : OpR X (binaryOp .Sub) (rI0 fun i j => .int (i - j)) := opI0 fun _ _ _ _ _ _ _ q => sub_int q
theorem op_mul : OpR X (binaryOp .Mult) (rI CMul fun i j => .int (i * j)) := opI fun _ _ _ _ _ _ _ hc q => mul_int q hc.ok
/-- // by a positive divisor -/
theorem op_fdiv : OpR X (binaryOp .FloorDiv) (rI CDiv fun i j => .int (i / j)) := opI fun i j _ _ _ _ _ hc q => by
  have h1 : (0 : Int) < j := hc.1
  have h2 : j < 1073741824 := hc.2
  exact floordiv_int (by omega) (by rw [Int.fdiv_eq_ediv_of_nonneg i (by omega)]; exact q) (.inl (PyProof.noPylong_small (by omega)))
/-- % by a positive divisor of any size -/
theorem op_mod : OpR X (binaryOp .Mod) (rI (fun _ j => 0 < j) fun i j => .int (i % j)) := opI fun i j _ _ _ _ _ hc q => by
  have h1 : (0 : Int) < j := hc
  exact mod_int' (by omega) (by rw [Int.fmod_eq_emod_of_nonneg i (by omega)]; exact q)
theorem op_pow : OpR X (binaryOp .Pow) (rI CPow fun i j => .int (i ^ j.toNat)) := opI fun _ _ _ _ _ _ _ hc q => pow_int_small hc.1 hc.2.1 hc.2.2 q
theorem unI {f : Value → Sem Value} {g : Int → Int}
    (rule : ∀ (i : Int) (t : Tok) (s : Shared) (Q : Value → Shared → Prop) (E : Value → Shared → Prop), Q (.int (g i) s.toks) { s with toks := s.toks + 1 } → wpAny (model X.prog X.w) X.A (f (.int i t)) Q E s) :
    UnR X f (rU fun i => .int (g i)) := by
  intro pins s σ H x v Q I rx h
  obtain ⟨i, rfl, q⟩ := h
  obtain ⟨t, rfl⟩ := rx
  exact rule i t s _ _ ⟨.int (g i), H, I.tok _, ⟨_, rfl⟩, q⟩
theorem un_neg : UnR X (unaryOp .USub) (rU fun i => .int (-i)) := unI fun _ _ _ _ _ q => neg_int q
/-! ### bools among ints: n += (a < b) -/
end

/-! ### comparisons -/
/-- the scalars that == tells apart as data does -/
def scal : V → V → Bool
  | .non, .non => true | .non, .int _ => true | .int _, .non => true | .non, .bl _ => true | .bl _, .non => true | .non, .str _ => true | .str _, .non => true
  | .int _, .int _ => true | .bl _, .bl _ => true | .str _, .str _ => true | .byt _, .byt _ => true
  | .int _, .str _ => true | .str _, .int _ => true | .bl _, .str _ => true | .str _, .bl _ => true
  | _, _ => false
def rEq : R2 := fun x y H Q => scal x y = true ∧ Q (.bl (decide (x = y))) H
def rNe : R2 := fun x y H Q => scal x y = true ∧ Q (.bl (!decide (x = y))) H

theorem dec_int {i j : Int} : decide (V.int i = V.int j) = (i == j) := by
  rw [Bool.eq_iff_iff]
  simp
theorem dec_bl {i j : Bool} : decide (V.bl i = V.bl j) = (i == j) := by
  rw [Bool.eq_iff_iff]
  simp
theorem dec_str {i j : Str} : decide (V.str i = V.str j) = (i == j) := by
  rw [Bool.eq_iff_iff]
  simp
theorem dec_byt {i j : Array UInt8} : decide (V.byt i = V.byt j) = (i.toList == j.toList) := by
  rw [Bool.eq_iff_iff]
  cases i
  cases j
  simp

section
variable {X : Cx} {a b c : Expr} {ta tb tc : TE} {pos : Pos}
theorem fin_bl {pins : List (Addr × Obj)} {σ : St} {H : Hp} {s : Shared} {Q : VK} {k k' : Bool} (I : Inv X pins σ H s) (q : Q (.bl k) H) (e : k = k') : EP X pins σ Q (.bool k') s := by
  subst e
  exact ⟨.bl k, H, I, rfl, q⟩
theorem op_eq : OpR X (compareOp .Eq) rEq := by
  intro pins s σ H x y v u Q I rx ry h
  obtain ⟨hs, q⟩ := h
  cases x with
  | non =>
    cases rx
    cases y with
    | non => cases ry; exact PySem.EqNone.eq_none_none (fin_bl I q (by simp))
    | bl j => cases ry; exact PySem.EqNone.eq_none_bool (fin_bl I q (by simp))
    | int j => obtain ⟨t', rfl⟩ := ry; exact PySem.EqNone.eq_none_int (fin_bl I q (by simp))
    | str j => obtain ⟨t', rfl⟩ := ry; exact PySem.EqNone.eq_none_str (fin_bl I q (by simp))
    | _ => exact absurd (show false = true from hs) Bool.false_ne_true
  | bl i =>
    cases rx
    cases y with
    | non => cases ry; exact PySem.EqNone.eq_bool_none (fin_bl I q (by simp))
    | bl j => cases ry; exact eq_bool (fin_bl I q dec_bl)
    | str j => obtain ⟨t', rfl⟩ := ry; exact PySem.EqMixed.eq_bool_str (fin_bl I q (by simp))
    | _ => exact absurd (show false = true from hs) Bool.false_ne_true
  | int i =>
    obtain ⟨t, rfl⟩ := rx
    cases y with
    | non => cases ry; exact PySem.EqNone.eq_int_none (fin_bl I q (by simp))
    | int j => obtain ⟨t', rfl⟩ := ry; exact eq_int (fin_bl I q dec_int)
    | str j => obtain ⟨t', rfl⟩ := ry; exact PySem.EqMixed.eq_int_str (fin_bl I q (by simp))
    | _ => exact absurd (show false = true from hs) Bool.false_ne_true
  | str i =>
    obtain ⟨t, rfl⟩ := rx
    cases y with
    | non => cases ry; exact PySem.EqNone.eq_str_none (fin_bl I q (by simp))
    | bl j => cases ry; exact PySem.EqMixed.eq_str_bool (fin_bl I q (by simp))
    | int j => obtain ⟨t', rfl⟩ := ry; exact PySem.EqMixed.eq_str_int (fin_bl I q (by simp))
    | str j => obtain ⟨t', rfl⟩ := ry; exact eq_str (fin_bl I q dec_str)
    | _ => exact absurd (show false = true from hs) Bool.false_ne_true
  | byt i =>
    obtain ⟨t, rfl⟩ := rx
    cases y with
    | byt j => obtain ⟨t', rfl⟩ := ry; exact PySem.W.eq_bytes (fin_bl I q dec_byt)
    | _ => exact absurd (show false = true from hs) Bool.false_ne_true
  | _ => cases y <;> exact absurd (show false = true from hs) Bool.false_ne_true
theorem op_ne : OpR X (compareOp .NotEq) rNe := by
  intro pins s σ H x y v u Q I rx ry h
  obtain ⟨hs, q⟩ := h
  cases x with
  | non =>
    cases rx
    cases y with
    | non => cases ry; exact PySem.EqNone.ne_none_none (fin_bl I q (by simp))
    | bl j => cases ry; exact PySem.EqNone.ne_none_bool (fin_bl I q (by simp))
    | int j => obtain ⟨t', rfl⟩ := ry; exact PySem.EqNone.ne_none_int (fin_bl I q (by simp))
    | str j => obtain ⟨t', rfl⟩ := ry; exact PySem.EqNone.ne_none_str (fin_bl I q (by simp))
    | _ => exact absurd (show false = true from hs) Bool.false_ne_true
  | bl i =>
    cases rx
    cases y with
    | non => cases ry; exact PySem.EqNone.ne_bool_none (fin_bl I q (by simp))
    | bl j => cases ry; exact ne_bool (fin_bl I q (congrArg not dec_bl))
    | str j => obtain ⟨t', rfl⟩ := ry; exact PySem.EqMixed.ne_bool_str (fin_bl I q (by simp))
    | _ => exact absurd (show false = true from hs) Bool.false_ne_true
  | int i =>
    obtain ⟨t, rfl⟩ := rx
    cases y with
    | non => cases ry; exact PySem.EqNone.ne_int_none (fin_bl I q (by simp))
    | int j => obtain ⟨t', rfl⟩ := ry; exact ne_int (fin_bl I q (congrArg not dec_int))
    | str j => obtain ⟨t', rfl⟩ := ry; exact PySem.EqMixed.ne_int_str (fin_bl I q (by simp))
    | _ => exact absurd (show false = true from hs) Bool.false_ne_true
  | str i =>
    obtain ⟨t, rfl⟩ := rx
    cases y with
    | non => cases ry; exact PySem.EqNone.ne_str_none (fin_bl I q (by simp))
    | bl j => cases ry; exact PySem.EqMixed.ne_str_bool (fin_bl I q (by simp))
    | int j => obtain ⟨t', rfl⟩ := ry; exact PySem.EqMixed.ne_str_int (fin_bl I q (by simp))
    | str j => obtain ⟨t', rfl⟩ := ry; exact ne_str (fin_bl I q (congrArg not dec_str))
    | _ => exact absurd (show false = true from hs) Bool.false_ne_true
  | byt i =>
    obtain ⟨t, rfl⟩ := rx
    cases y with
    | byt j => obtain ⟨t', rfl⟩ := ry; exact PySem.W.ne_bytes (fin_bl I q (congrArg not dec_byt))
    | _ => exact absurd (show false = true from hs) Bool.false_ne_true
  | _ => cases y <;> exact absurd (show false = true from hs) Bool.false_ne_true

theorem op_lt : OpR X (compareOp .Lt) (rI0 fun i j => .bl (decide (i < j))) := opB0 fun _ _ _ _ _ _ _ q => lt_int q
theorem op_le : OpR X (compareOp .LtE) (rI0 fun i j => .bl (decide (i ≤ j))) := opB0 fun _ _ _ _ _ _ _ q => le_int q
theorem op_gt : OpR X (compareOp .Gt) (rI0 fun i j => .bl (decide (j < i))) := opB0 fun _ _ _ _ _ _ _ q => gt_int q
theorem op_ge : OpR X (compareOp .GtE) (rI0 fun i j => .bl (decide (j ≤ i))) := opB0 fun _ _ _ _ _ _ _ q => ge_int q
/-- is None, is not None: the right side a value none -/
theorem op_isN : OpR X (compareOp .Is) (fun x y H Q => y = .non ∧ Q (.bl (decide (x = .non))) H) := by
  intro pins s σ H x y v u Q I rx ry h
  obtain ⟨rfl, q⟩ := h
  cases ry
  refine is_none_gen (fin_bl I q ?_)
  cases x <;> first
    | (cases rx; rfl)
    | (obtain ⟨t, rfl⟩ := rx; rfl)
theorem nomark (b : Expr) {op : CmpOp} (h : op ≠ .In := by decide) (h2 : op ≠ .NotIn := by decide) : behindInMarks op b = false := by
  have e1 : (op == CmpOp.In) = false := by cases op <;> first | rfl | exact absurd rfl h
  have e2 : (op == CmpOp.NotIn) = false := by cases op <;> first | rfl | exact absurd rfl h2
  cases b <;> simp [behindInMarks, e1, e2]
/-- a comparison as a value; hm: nomark b, or (for in, not in) by with_unfolding_all rfl -/
theorem pe_cmpR {op : CmpOp} {r : R2} (ho : OpR X (compareOp op) r) (ha : PE X a ta) (hb : PE X b tb) (hm : behindInMarks op b = false) : PE X (.Compare a [op] [b] pos) (tOp r ta tb) := by
  intro pins s σ H Q I h
  exact wpAny_Compare1 (binT ha hb I h fun v u s2 x y H2 I2 rx ry q => ho pins s2 σ H2 x y v u Q I2 rx ry q) hm
/-- a reading of a value as a test -/
def tTest (t : TE) : TT := fun σ H Q => t σ H fun x H' => ∃ k, x = .bl k ∧ Q k H'
theorem pt_cmpR {op : CmpOp} {r : R2} (ho : OpR X (compareOp op) r) (ha : PE X a ta) (hb : PE X b tb) (hm : behindInMarks op b = false) : PT X (.Compare a [op] [b] pos) (tTest (tOp r ta tb)) := by
  intro pins s σ H Q I h
  refine wpAny_isTrue_Compare1 (thn (ha pins s σ H _ I h) fun v s1 ⟨x, H1, I1, r1, q1⟩ => thn (hb pins s1 σ H1 _ I1 q1) fun u s2 ⟨y, H2, I2, r2, q2⟩ =>
    thn (ho pins s2 σ H2 x y v u _ I2 r1 r2 q2) fun c s3 ⟨z, H3, I3, r3, k, e, q3⟩ => ?_) hm
  subst e
  cases r3
  exact wpAny_truthy_bool ⟨H3, I3, q3⟩
/-! ### truth -/
theorem line63 : (sizeLine : Nat) < 2 ^ 63 := by rw [sizeLine_eq]; decide
/-! ### strs and bytes -/
theorem op_add_str : OpR X (binaryOp .Add) (fun x y H Q => ∃ i j, x = .str i ∧ y = .str j ∧ i.length + j.length ≤ sizeLine ∧ Q (.str (i ++ j)) H) := by
  intro pins s σ H x y v u Q I rx ry h
  obtain ⟨i, j, rfl, rfl, hz, q⟩ := h
  obtain ⟨t, rfl⟩ := rx
  obtain ⟨t', rfl⟩ := ry
  exact add_str (fun t' tk => ⟨.str (i ++ j), H, I.tok _, ⟨_, rfl⟩, q⟩) hz
/-! ### scalar builtins, by CallR -/
theorem vals1 {x : V} {us : List Value} (r : Vals [x] us) : ∃ u, us = [u] ∧ RelV x u := by
  cases r with
  | cons r1 r2 => cases r2; exact ⟨_, rfl, r1⟩
theorem vals2 {x y : V} {us : List Value} (r : Vals [x, y] us) : ∃ u w', us = [u, w'] ∧ RelV x u ∧ RelV y w' := by
  cases r with
  | cons r1 r2 =>
    cases r2 with
    | cons r3 r4 => cases r4; exact ⟨_, _, rfl, r1, r3⟩
theorem call_abs : CallR X (.builtin "abs") (fun xs H Q => ∃ i, xs = [.int i] ∧ Q (.int (if i < 0 then -i else i)) H) := by
  intro pins s σ H xs us Q I r h
  obtain ⟨i, rfl, q⟩ := h
  obtain ⟨u, rfl, t, rfl⟩ := vals1 r
  exact call_abs_int fun u tk => ⟨.int (if i < 0 then -i else i), H, I.tok _, ⟨_, rfl⟩, q⟩
theorem call_min2 (hc : X.calm = true) : CallR X (.builtin "min") (fun xs H Q => ∃ i j, xs = [.int i, .int j] ∧ Q (.int (if j < i then j else i)) H) := by
  intro pins s σ H xs us Q I r h
  obtain ⟨i, j, rfl, q⟩ := h
  obtain ⟨u, w', rfl, ⟨t, rfl⟩, ⟨t', rfl⟩⟩ := vals2 r
  refine min_two_ints (I.ok.hd hc) fun h' tk k => ⟨_, H, I.kept k, ?_, q⟩
  by_cases hj : j < i
  · rw [if_pos hj, if_pos hj]; exact ⟨_, rfl⟩
  · rw [if_neg hj, if_neg hj]; exact ⟨_, rfl⟩
theorem call_int1 : CallR X (.type "int") (fun xs H Q => (∃ i, xs = [.int i] ∧ Q (.int i) H) ∨ ∃ k, xs = [.bl k] ∧ Q (.int (if k then 1 else 0)) H) := by
  intro pins s σ H xs us Q I r h
  rcases h with ⟨i, rfl, q⟩ | ⟨k, rfl, q⟩
  · obtain ⟨u, rfl, t, rfl⟩ := vals1 r
    exact call_int_int ⟨.int i, H, I, ⟨_, rfl⟩, q⟩
  · obtain ⟨u, rfl, r1⟩ := vals1 r
    cases r1
    exact call_int_bool ⟨.int (if k then 1 else 0), H, I.tok _, ⟨_, rfl⟩, q⟩
end
end L2

namespace L2
open PySem PySem.Spec PyProof.Rows

/-! ### an instance, its attributes a map -/
structure ObjM (h : Heap) (x dx C : Addr) (mA : Str → Option Value) : Prop where
  obj : h.get? x = some (PySem.W.instObj C dx)
  ns : h.Ns1 dx mA
  ne : dx ≠ x

theorem lookIn_ns {h : Heap} {dx : Addr} {mA : Str → Option Value} (n : h.Ns1 dx mA) : ∃ od, h.get? dx = some od ∧ ∀ name, PySem.W.lookIn name od = some (mA name) := by
  obtain ⟨o, es, ep, ho, hd, hk, _, hm⟩ := n
  refine ⟨o, ho, fun name => ?_⟩
  have e := hm name
  unfold nsFind findBy at e
  rw [← Array.find?_toList] at e
  unfold PySem.W.lookIn
  rw [hd]
  dsimp only
  split
  · rename_i y q
    rw [q] at e
    exact congrArg some e
  · rename_i q
    rw [q] at e
    have a : es.toList.any (·.refKey) = false := by
      rw [List.any_eq_false]
      intro y hy
      obtain ⟨z, t, hkey⟩ := hk y (Array.mem_toList_iff.mp hy)
      simp [DictEntry.refKey, hkey]
    have a' : ¬ es.toList.any (·.refKey) = true := by rw [a]; exact Bool.false_ne_true
    rw [if_neg a']
    exact congrArg some e

theorem ObjM.look {h : Heap} {x dx C : Addr} {mA : Str → Option Value} (I : ObjM h x dx C mA) : ∃ od, PySem.W.InstAt h x (PySem.W.instObj C dx) C (some od) ∧ ∀ name, PySem.W.lookIn name od = some (mA name) :=
  let ⟨od, ho, hl⟩ := lookIn_ns I.ns
  ⟨od, ⟨I.obj, rfl, rfl, ho⟩, hl⟩

section
variable {prog : Program} {w : World} {A : Around} {E : Value → Shared → Prop} {s : Shared} {K : PySem.W.Frag} {x dx C f : Addr} {mA : Str → Option Value} {name : Str} {v : Value}

end

/-! ### the attributes as a list of pairs -/
theorem RelO.some_of {v : V} {o : Option Value} (r : RelO (some v) o) : ∃ u, o = some u ∧ RelV v u := by
  cases o with
  | none => exact (show False from r).elim
  | some u => exact ⟨u, rfl, r⟩
section
variable {P : Program} {w : World} {H H' : Hp} {h h' : Heap} {a C dx : Addr} {fs fs' : List (Str × V)}
theorem ins_get (hok : HOk P w H h) (e : H a = some (.ins C dx fs)) : ∃ mA, ObjM h a dx C mA ∧ (∀ f, RelO (fs.lookup f) (mA f)) ∧ PySem.Within mA (fs.map (·.1)) ∧ fs.length ≤ 1000 ∧ H dx = some (.own a) := by
  obtain ⟨d, z, ne, ob, mA, n, r, q⟩ := (show ObjOk P w H h a (.ins C dx fs) from hok a _ e)
  exact ⟨mA, ⟨ob, n, ne⟩, r, q, z, d⟩
end

/-! ### what of the text a class must have -/
structure Cls (K : PySem.W.Frag) (C : Addr) : Prop where
  pg : PySem.W.plainGet K C Str.empty = true
  hd : PySem.W.hasDictIn K C = true
  po : PySem.W.plainOver K C = true
  sa : PySem.W.findIn K (.ref C) "__setattr__" = some (some (.builtin "object.__setattr__"))
theorem Cls.get {K : PySem.W.Frag} {C : Addr} (c : Cls K C) (f : Str) : PySem.W.plainGet K C f = true := c.pg
/-- a constant of the class -/
structure Con (K : PySem.W.Frag) (C : Addr) (f : Str) (v : V) (u : Value) : Prop where
  at_ : PySem.W.findIn K (.ref C) f = some (some u)
  rel : RelV v u
  get : PySem.W.specialIn K u "__get__" = some none
  cp : PySem.W.copiedNames.contains f = false
/-- a method: a plain def of the class or of one above it -/
structure Meth (K : PySem.W.Frag) (C : Addr) (m : Str) (f : Addr) : Prop where
  at_ : PySem.W.findIn K (.ref C) m = some (some (.ref f))
  fn : PySem.W.isFn K (.ref f) = true
  kp : PySem.W.keepIn K (.ref f) = true

section
variable {X : Cx} {pins : List (Addr × Obj)} {σ : St} {H : Hp} {s : Shared} {a C dx : Addr} {fs : List (Str × V)} {f : Str} {v : V} {A : Around} {E : Value → Shared → Prop}

end

/-! ### readings and rules -/
section
variable {X : Cx} {o e value : Expr} {f : Str} {pos pos' tpos : Pos} {ta tv : TE}
end

/-! ### isinstance -/
section
variable {X : Cx} {pins : List (Addr × Obj)} {σ : St} {H : Hp} {s : Shared} {A : Around} {E : Value → Shared → Prop} {Q : Value → Shared → Prop} {c : Value} {b : Bool}
/-- the type of a value, as the fragment's deciders take it; for an instance its class -/
inductive TyOf (K : PySem.W.Frag) (H : Hp) : V → Value → Prop where
  | non : TyOf K H .non (.type "NoneType")
  | bl (x : Bool) : TyOf K H (.bl x) (.type "bool")
  | int (i : Int) : TyOf K H (.int i) (.type "int")
  | str (x : Str) : TyOf K H (.str x) (.type "str")
  | flt (x : UInt64) : TyOf K H (.flt x) (.type "float")
  | lst {a : Addr} {xs : List V} (e : H a = some (.lst xs)) : TyOf K H (.ref a) (.type "list")
  | frz {a : Addr} {o : Obj} {xs : List V} (e : H a = some (.frz o (.lst xs))) : TyOf K H (.ref a) (.type "list")
  | tup {a : Addr} {xs : List V} (e : H a = some (.tup xs)) : TyOf K H (.ref a) (.type "tuple")
  | dK {a : Addr} {kvs : List (Key × V)} (e : H a = some (.dK kvs)) : TyOf K H (.ref a) (.type "dict")
  | dT {a : Addr} {kvs : List (List Key × V)} (e : H a = some (.dT kvs)) : TyOf K H (.ref a) (.type "dict")
  | ins {a C dx : Addr} {fs : List (Str × V)} (e : H a = some (.ins C dx fs)) (cl : Cls K C) (ha : PySem.W.findIn K (.ref C) "__class__" = some (some (.builtin "object.__class__")))
      (hn : PySem.W.specialIn K (.builtin "object.__class__") "__get__" = some (some (.builtin "getset_descriptor.__get__"))) (htk : PySem.W.takesIn K (.builtin "object.__class__") = some true)
      (hm : PySem.W.mroIn K C (.type "object") = some true) : TyOf K H (.ref a) (.ref C)
/-- isinstance(x, c) for one class c, a built-in or an own one: kitOne's answer -/
theorem isinst_ok {x : V} {u t : Value} (I : Inv X pins σ H s) (rx : RelV x u) (ty : TyOf X.K H x t) (e : PySem.W.kitOne X.K t c = some b) (h : ∀ tk, Q (.bool b) { s with toks := tk }) :
    wpAny (model X.prog X.w) A (call (.builtin "isinstance") [u, c]) Q E s := by
  cases ty with
  | non => cases (show u = Value.none from rx); exact PySem.W.kia_one PySem.W.kitx_none I.kIn True.intro e (fun z => nomatch z) h
  | bl y => cases (show u = Value.bool y from rx); exact PySem.W.kia_one PySem.W.kitx_bool I.kIn True.intro e (fun z => nomatch z) h
  | int i => obtain ⟨t, q⟩ := (show ∃ t, u = Value.int i t from rx); cases q; exact PySem.W.kia_one PySem.W.kitx_int I.kIn True.intro e (fun z => nomatch z) h
  | str y => obtain ⟨t, q⟩ := (show ∃ t, u = Value.str y t from rx); cases q; exact PySem.W.kia_one PySem.W.kitx_str I.kIn True.intro e (fun z => nomatch z) h
  | flt y => obtain ⟨t, q⟩ := (show ∃ t, u = Value.float y t from rx); cases q; exact PySem.W.kia_one PySem.W.kitx_float I.kIn True.intro e (fun z => nomatch z) h
  | @lst a xs ea =>
    cases (show u = Value.ref a from rx)
    obtain ⟨_, _, n, _, h1⟩ := (show ObjOk X.prog X.w H s.heap a (.lst xs) from I.hok a _ ea)
    exact PySem.W.kia_one PySem.W.kitx_list I.kIn ⟨_, h1, rfl⟩ e (fun z => nomatch z) h
  | @frz a ob xs ea =>
    cases (show u = Value.ref a from rx)
    obtain ⟨_, _, _, n, _, h1⟩ := (show ObjOk X.prog X.w H s.heap a (.frz ob (.lst xs)) from I.hok a _ ea)
    exact PySem.W.kia_one PySem.W.kitx_list I.kIn ⟨_, h1, rfl⟩ e (fun z => nomatch z) h
  | @tup a xs ea =>
    cases (show u = Value.ref a from rx)
    obtain ⟨_, _, _, p⟩ := (show ObjOk X.prog X.w H s.heap a (.tup xs) from I.hok a _ ea)
    obtain ⟨o, h1, h2, _⟩ := p
    exact PySem.W.kia_one PySem.W.kitx_tuple I.kIn ⟨o, h1, h2⟩ e (fun z => nomatch z) h
  | @dK a kvs ea =>
    cases (show u = Value.ref a from rx)
    obtain ⟨_, _, vs, _, p⟩ := (show ObjOk X.prog X.w H s.heap a (.dK kvs) from I.hok a _ ea)
    obtain ⟨o, es, ep, h1, h2, _⟩ := p
    exact PySem.W.kia_one PySem.W.kitx_dict I.kIn ⟨o, h1, h2.1⟩ e (fun z => nomatch z) h
  | @dT a kvs ea =>
    cases (show u = Value.ref a from rx)
    obtain ⟨_, _, xs, _, o, es, ep, h1, h2, _⟩ := (show ObjOk X.prog X.w H s.heap a (.dT kvs) from I.hok a _ ea)
    exact PySem.W.kia_one PySem.W.kitx_dict I.kIn ⟨o, h1, h2.1⟩ e (fun z => nomatch z) h
  | @ins a C dx fs ea cl ha hn htk hm =>
    cases (show u = Value.ref a from rx)
    obtain ⟨mA, O, _⟩ := ins_get I.hok ea
    obtain ⟨od, J, _⟩ := O.look
    exact PySem.W.kia_one (PySem.W.kitx_own (cl.get _) cl.hd ha hn htk hm) I.kIn J e (fun z => nomatch z) h
end
end L2

namespace L2
open PySem PySem.Spec PyProof.Rows

/-! ### room -/
structure Room (k : Nat) (A : Around) : Prop where
  hd : A.handled = none
  dp : A.depth + 3 * k + 5 < recursionLimit
  un : A.units + 16 * k + 200 < cLine
theorem Room.mono {j k : Nat} {A : Around} (r : Room k A) (h : j ≤ k) : Room j A := ⟨r.hd, by have := r.dp; omega, by have := r.un; omega⟩
theorem Room.deeper {k : Nat} {A : Around} (r : Room (k + 1) A) (env : Env) : Room k (A.deeper env) :=
  ⟨r.hd, by have := r.dp; show A.depth + 1 + 3 * k + 5 < _; omega, by have := r.un; show A.units + 3 + 16 * k + 200 < _; omega⟩
theorem Room.depth {k : Nat} {A : Around} (r : Room k A) : A.depth < recursionLimit := by have := r.dp; omega
theorem Room.units {k : Nat} {A : Around} (r : Room k A) : A.units + 64 < cLine := by have := r.un; omega
/-! ### argument lists and displays -/
def tNil : TA := fun _ H Q => Q [] H
def tCons (ta : TE) (tr : TA) : TA := fun σ H Q => ta σ H fun x H1 => tr σ H1 fun xs H2 => Q (x :: xs) H2
section
variable {X : Cx} {e : Expr} {es : List Expr} {te : TE} {t : TA} {pos : Pos}
theorem pa_nil : PA X [] tNil := fun _ _ _ _ H Q I h => Calls.spliced_nil ⟨[], H, I, .nil, h⟩
theorem pa_cons (ha : PE X e te) (hr : PA X es t) (hs : starEach (e :: es) X.env = (false, eval e X.env) :: starEach es X.env := by rfl) : PA X (e :: es) (tCons te t) := by
  intro pos pins s σ H Q I h
  rw [hs]
  show wpAny _ _ (spliced ((false, eval e X.env) :: backTo pos (starEach es X.env))) _ _ s
  refine Calls.spliced_cons (thn (ha pins s σ H _ I h) fun u s1 ⟨x, H1, I1, r1, q1⟩ => ?_)
  exact thn (hr pos pins s1 σ H1 _ I1 q1) fun us s2 ⟨xs, H2, I2, r2, q2⟩ => ⟨x :: xs, H2, I2, .cons r1 r2, q2⟩

/-- a tuple, a list of written items -/
def tTup (t : TA) : TE := fun σ H Q => t σ H fun xs H1 => xs.length ≤ sizeLine ∧ ∀ p, H1 p = none → Q (.ref p) (upd H1 p (.tup xs))
def tLst (t : TA) : TE := fun σ H Q => t σ H fun xs H1 => xs.length ≤ sizeLine ∧ ∀ p, H1 p = none → Q (.ref p) (upd H1 p (.lst xs))
theorem pe_tup {x1} (h : PA X es t) : PE X (.Tuple es x1 pos) (tTup t) := by
  intro pins s σ H Q I hq
  refine wpAny_Tuple_spliced (thn (h pos pins s σ H _ I hq) fun us s1 ⟨xs, H1, I1, r, z, q⟩ => ⟨by rw [← r.length]; exact z, ?_⟩)
  have hf : H1 s1.heap.objs.size = none := I1.hok.fresh (Nat.le_refl _)
  refine ⟨.ref s1.heap.objs.size, upd H1 s1.heap.objs.size (.tup xs), I1.laid (t' := s1.toks) (fun b u e => Heap.get?_push_of_some _ e) (Nat.le_refl _) ?_, rfl, q _ hf⟩
  exact ⟨z, us, r, ⟨_, Heap.get?_push_size _ rfl, rfl, _, rfl⟩⟩
theorem pe_lst (h : PA X es t) : PE X (.List es pos) (tLst t) := by
  intro pins s σ H Q I hq
  refine wpAny_List_spliced (thn (h pos pins s σ H _ I hq) fun us s1 ⟨xs, H1, I1, r, z, q⟩ => ⟨by rw [← r.length]; exact z, ?_⟩)
  have hf : H1 s1.heap.objs.size = none := I1.hok.fresh (Nat.le_refl _)
  refine ⟨.ref s1.heap.objs.size, upd H1 s1.heap.objs.size (.lst xs), I1.laid (t' := s1.toks) (fun b u e => Heap.get?_push_of_some _ e) (Nat.le_refl _) ?_, rfl, q _ hf⟩
  exact ⟨z, us, 0, r, Heap.get?_push_size _ rfl⟩
end

/-! ### what a def promises -/
/-- a def's promise: the bound arguments in the parameters' order, the heap, the wanted end, the wanted exception -/
abbrev Sp := List V → Hp → VK → XK → Prop
/-- how an exception lies behind a call (file 08 gives it): the callers' frames, abstract heap and state ahead of the call, the wish, the exception, the state -/
abbrev CXT := List Env → Hp → Shared → XK → Value → Shared → Prop

/-- the state at a call -/
structure Env0 (P : Program) (w : World) (K : PySem.W.Frag) (mg : Str → Option Value) (base : Heap) (A : Around) (outer : List Env) (s : Shared) (H : Hp) : Prop where
  frames : A.frames = some outer
  mod : Mod K mg base
  bs : ∀ b o, base.get? b = some o → s.heap.get? b = some o ∧ H b = none
  bsz : base.objs.size ≤ s.heap.objs.size
  funs : s.heap.FunFrames base outer
  frf : ∀ b ∈ frs outer, H b = none
  hok : HOk P w H s.heap
  bare : AllBare s.gens
/-- a call's end -/
def CE (outer : List Env) (P : Program) (w : World) (H : Hp) (s : Shared) (Q : VK) (u : Value) (s' : Shared) : Prop :=
  ∃ v H', s'.os = s.os ∧ AllBare s'.gens ∧ Un (frs outer) [] H H' s.heap s'.heap ∧ HOk P w H' s'.heap ∧ RelV v u ∧ Q v H'
def CR (CX : CXT) (outer : List Env) (P : Program) (w : World) (H : Hp) (s : Shared) (Q : VK) (E : XK) (r : Result) (s' : Shared) : Prop :=
  match r with
  | .ok (.ret u) => CE outer P w H s Q u s'
  | .ok _ => False
  | .error e => CX outer H s E e s'
structure FnOk (P : Program) (w : World) (K : PySem.W.Frag) (mg : Str → Option Value) (base : Heap) (CX : CXT) (k : Nat) (f : Addr) (fd : FuncData) (ps : List Str) (sp : Sp) : Prop where
  len : ∀ vs H Q E, sp vs H Q E → vs.length = ps.length
  run : ∀ (A : Around) (outer : List Env) (s : Shared) (H : Hp) (args : Args) (us : List Value) (vs : List V) (Q : VK) (E : XK), Room k A → Env0 P w K mg base A outer s H → BindsTo s fd args (ps.zip us) → Vals vs us → sp vs H Q E →
    codeAny (model P w) A (.call (.ref f) args) (CR CX outer P w H s Q E) s
section
variable {X : Cx} {pins : List (Addr × Obj)} {σ : St} {H : Hp} {s s' : Shared}
/-- from a body: what a callee wants -/
theorem Inv.env0 (I : Inv X pins σ H s) : Env0 X.prog X.w X.K X.mg X.base X.A X.stack s H :=
  ⟨I.ok.frames, I.ok.mod, I.bs, Nat.le_trans I.ok.bsz I.sz, I.stack, I.stkFree, I.hok, I.bare⟩
/-- behind a call -/
theorem Inv.after {Q : VK} {u : Value} (I : Inv X pins σ H s) (h : CE X.stack X.prog X.w H s Q u s') : EP X pins σ Q u s' := by
  obtain ⟨v, H', os, bare, un, hok, r, q⟩ := h
  obtain ⟨hh, g, d, t, os'⟩ := s'
  obtain rfl : os' = s.os := os
  exact ⟨v, H', I.call (h' := hh) (g' := g) (d' := d) (t' := t) (ch := []) un hok bare (fun b z => absurd z (by simp)), r, q⟩
end

/-! ### calls -/
/-- f(..): the written arguments, then the defaults dvs; E: what is wanted of an exception -/
def tCall (sp : Sp) (dvs : List V) (E : XK) (t : TA) : TE := fun σ H Q => t σ H fun vs H1 => sp (vs ++ dvs) H1 Q E
/-- how the parameters are bound: us the positional arguments, kw the keywords' values by name, ds the defaults that fill up -/
def Binds (K : PySem.W.Frag) (fd : FuncData) (ps : List Str) (ds : List Value) : Prop :=
  ∀ (s : Shared) (us : List Value), K.In s.heap → (us ++ ds).length = ps.length → BindsTo s fd ⟨us, []⟩ (ps.zip (us ++ ds))
/-- every parameter is given -/
theorem Binds.all {K : PySem.W.Frag} {fd : FuncData} {ps : List Str} (h : ∀ us : List Value, us.length = ps.length → bindArgs fd ⟨us, []⟩ = pure (ps.zip us)) : Binds K fd ps [] := fun s us _ hl => by
  rw [List.append_nil] at hl ⊢
  exact .of_eq (h us hl)

/-- an exception of a callee reaches what this body wants of exceptions -/
def Passes (CX : CXT) (X : Cx) (E : XK) : Prop := ∀ (pins : List (Addr × Obj)) (σ : St) (H : Hp) (s : Shared) (e : Value) (s' : Shared), Inv X pins σ H s → CX X.stack H s E e s' → X.xe e s'

section
variable {X : Cx} {CX : CXT} {k : Nat} {f C : Addr} {fd : FuncData} {ps : List Str} {sp : Sp} {dvs : List V} {ds : List Value} {E : XK} {x m : Str} {p pos apos : Pos} {e o : Expr} {es : List Expr} {ta : TE} {t : TA}

/-- the callee runs -/
theorem run_fn {pins : List (Addr × Obj)} {σ : St} {H : Hp} {s : Shared} {Q : VK} {us : List Value} {vs : List V} (F : FnOk X.prog X.w X.K X.mg X.base CX k f fd ps sp) (hr : Room k X.A) (hb : Binds X.K fd ps ds) (hd : Vals dvs ds) (hx : Passes CX X E)
    (I : Inv X pins σ H s) (r : Vals vs us) (h : sp (vs ++ dvs) H Q E) : wpAny (model X.prog X.w) X.A (call (.ref f) us) (EP X pins σ Q) X.xe s := by
  have r2 : Vals (vs ++ dvs) (us ++ ds) := r.append hd
  have hl : (us ++ ds).length = ps.length := by rw [← r2.length]; exact F.len _ _ _ _ h
  refine wpAny_call (codeAny_mono (F.run X.A X.stack s H ⟨us, []⟩ (us ++ ds) (vs ++ dvs) Q E hr I.env0 (hb s us I.kIn hl) r2 h) fun r s' hq => ?_)
  cases r with
  | error e => exact hx pins σ H s e s' I hq
  | ok fl =>
    cases fl with
    | ret u => exact I.after hq
    | next => exact False.elim hq
    | brk => exact False.elim hq
    | cont => exact False.elim hq

theorem pe_call (F : FnOk X.prog X.w X.K X.mg X.base CX k f fd ps sp) (hr : Room k X.A) (hg : Gl X x) (hm : X.mg x = some (.ref f)) (hk : PySem.W.keepIn X.K (.ref f) = true) (hb : Binds X.K fd ps ds) (hd : Vals dvs ds) (hx : Passes CX X E)
    (ha : PA X (e :: es) t) (hdb : (x == ("__debug__" : Str)) = false := by decide) (he : starEach (e :: es) X.env = (false, eval e X.env) :: starEach es X.env := by rfl) (hpl : (backTo pos (starEach es X.env)).any (·.1) = false := by rfl) :
    PE X (.Call (.Name x p) (e :: es) [] pos) (tCall sp dvs E t) := by
  intro pins s σ H Q I h
  refine wpAny_Call_Name_kw (ld_glob I hg hm ?_ hdb)
  refine PySem.W.callWith_K (h₀ := X.base) I.ok.mod.kin hk (thn (ha pos pins s σ H _ I h) fun us s1 ⟨vs, H1, I1, r, q⟩ => ⟨I1.kIn, ?_⟩) he hpl
  exact run_fn F hr hb hd hx I1 r q
/-- what a class must have to be made -/
structure Mk (K : PySem.W.Frag) (C f : Addr) : Prop where
  makes : PySem.W.makesIn K C = true
  init : PySem.W.findIn K (.ref C) "__init__" = some (some (.ref f))
  fn : PySem.W.isFn K (.ref f) = true
  kp : PySem.W.keepIn K (.ref C) = true

end

/-! ### keywords -/
section
variable {X : Cx} {CX : CXT} {k : Nat} {f C : Addr} {fd : FuncData} {ps ks : List Str} {sp : Sp} {E : XK} {x m : Str} {p pos apos kpos : Pos} {e o : Expr} {es : List Expr} {kws : List Keyword} {te ta : TE} {t tk : TA} {nm : Option Str}
/-- how a call with keywords binds: g puts the positional values us and the keywords' values ws (names ks) in the parameters' order, defaults among them -/
structure KBinds (K : PySem.W.Frag) (fd : FuncData) (ps ks : List Str) (g : List Value → List Value → List Value) (gV : List V → List V → List V) : Prop where
  to : ∀ (s : Shared) (us ws : List Value), K.In s.heap → (g us ws).length = ps.length → BindsTo s fd ⟨us, ks.zip ws⟩ (ps.zip (g us ws))
  rel : ∀ {vs : List V} {us : List Value} {zs : List V} {ws : List Value}, Vals vs us → Vals zs ws → Vals (gV vs zs) (g us ws)
variable {g : List Value → List Value → List Value} {gV : List V → List V → List V}
end

/-! ### a def's body keeps its promise -/
/-- names: the parameters first -/
structure FnScope (N P : List Str) (sc : Scope) : Prop where
  kind : sc.kind = .function
  co : sc.isCoroutine = false
  gen : sc.isGenerator = false
  nd : N.Nodup
  pre : N.take P.length = P
  par : ∀ x ∈ P, sc.names.lookup x = some .local ∨ sc.names.lookup x = some .cell
  nofree : ∀ y ∈ sc.names, y.2 ≠ .free

theorem bindL_out {kindOf : Str → Option NameKind} {x : Str} : ∀ {binds : List (Str × Value)} {m : Str → Option Value}, (∀ v, (x, v) ∉ binds) → bindL kindOf binds m x = m x
  | [], _, _ => rfl
  | (n, v) :: r, m, h => by
    unfold bindL
    rw [bindL_out fun w hw => h w (List.mem_cons_of_mem _ hw)]
    split
    · have : x ≠ n := by rintro rfl; exact h v List.mem_cons_self
      simp [this]
    · rfl
theorem bindC_out {kindOf : Str → Option NameKind} {x : Str} : ∀ {binds : List (Str × Value)} {m : Str → Option Value}, (∀ v, (x, v) ∉ binds) → bindC kindOf binds m x = m x
  | [], _, _ => rfl
  | (n, v) :: r, m, h => by
    unfold bindC
    rw [bindC_out fun w hw => h w (List.mem_cons_of_mem _ hw)]
    split
    · rfl
    · have : x ≠ n := by rintro rfl; exact h v List.mem_cons_self
      simp [this]
theorem bindL_get {kindOf : Str → Option NameKind} {x : Str} {v : Value} : ∀ {P : List Str} {vs : List Value} {i : Nat} {m : Str → Option Value}, P.Nodup → P[i]? = some x → vs[i]? = some v → kindOf x = some .local →
    bindL kindOf (P.zip vs) m x = some v
  | [], _, _, _, _, h, _, _ => by simp at h
  | _ :: _, [], _, _, _, _, h, _ => by simp at h
  | p :: P, w :: vs, 0, m, nd, h1, h2, hk => by
    simp at h1 h2; subst h1; subst h2
    show bindL kindOf ((p, w) :: P.zip vs) m p = _
    unfold bindL
    rw [bindL_out fun v hv => (List.nodup_cons.mp nd).1 (List.of_mem_zip hv).1, if_pos hk]
    simp
  | p :: P, w :: vs, i + 1, m, nd, h1, h2, hk => by
    show bindL kindOf ((p, w) :: P.zip vs) m x = _
    unfold bindL
    exact bindL_get (i := i) (List.nodup_cons.mp nd).2 (by simpa using h1) (by simpa using h2) hk
theorem bindC_get {kindOf : Str → Option NameKind} {x : Str} {v : Value} : ∀ {P : List Str} {vs : List Value} {i : Nat} {m : Str → Option Value}, P.Nodup → P[i]? = some x → vs[i]? = some v → kindOf x ≠ some .local →
    bindC kindOf (P.zip vs) m x = some v
  | [], _, _, _, _, h, _, _ => by simp at h
  | _ :: _, [], _, _, _, _, h, _ => by simp at h
  | p :: P, w :: vs, 0, m, nd, h1, h2, hk => by
    simp at h1 h2; subst h1; subst h2
    show bindC kindOf ((p, w) :: P.zip vs) m p = _
    unfold bindC
    rw [bindC_out fun v hv => (List.nodup_cons.mp nd).1 (List.of_mem_zip hv).1, if_neg hk]
    simp
  | p :: P, w :: vs, i + 1, m, nd, h1, h2, hk => by
    show bindC kindOf ((p, w) :: P.zip vs) m x = _
    unfold bindC
    exact bindC_get (i := i) (List.nodup_cons.mp nd).2 (by simpa using h1) (by simpa using h2) hk

/-- the names' values at the entry -/
def start (N : List Str) (vs : List V) : St := vs.map some ++ List.replicate (N.length - vs.length) none

/-- the context of a def's body, at its entry; an exception leaves the frame, then lies as CX says -/
def cxOf (CX : CXT) (P : Program) (w : World) (K : PySem.W.Frag) (mg : Str → Option Value) (base : Heap) (N : List Str) (qual : Str) (scope : Scope) (f : Addr) (cd : Value) (A : Around) (outer : List Env) (s : Shared) (H : Hp) (E : XK) : Cx where
  prog := P
  w := w
  K := K
  mg := mg
  base := base
  A := A.deeper (envOfC qual scope s.heap.objs.size f cd)
  N := N
  s₀ := s
  H₀ := H
  env := envOfC qual scope s.heap.objs.size f cd
  outer := outer
  stack := envOfC qual scope s.heap.objs.size f cd :: outer
  ex := []
  calm := true
  fn := fun _ => true
  pn := []
  xe := fun e s' => wpAny (model P w) (A.deeper (envOfC qual scope s.heap.objs.size f cd)) (leaving (envOfC qual scope s.heap.objs.size f cd) e) (fun _ s'' => CX outer H s E e s'') (fun e' s'' => CX outer H s E e' s'') s'

theorem cell_has {sc : Scope} {n : Nat} {x : Str} (h : sc.names.lookup x = some .cell) : ∃ c, (cellsFrom n sc.names []).lookup x = some c := by
  have q := PySem.W.cellsFrom_some sc.names n [] (.inl h)
  exact Option.isSome_iff_exists.mp q

theorem inv_start {CX : CXT} {P : Program} {w : World} {K : PySem.W.Frag} {mg : Str → Option Value} {base : Heap} {N ps : List Str} {qual : Str} {scope : Scope} {f : Addr} {cd : Value} {A : Around} {outer : List Env} {s s1 : Shared} {H : Hp} {E : XK} {us : List Value} {vs : List V}
    (S : FnScope N ps scope) (hd : A.handled = none) (e0 : Env0 P w K mg base A outer s H) (hl : vs.length = ps.length) (r : Vals vs us)
    (x : InCallC s s.heap.objs.size (bindL (envOfC qual scope s.heap.objs.size f cd).kindOf (ps.zip us) fun _ => none) (cellsFrom (s.heap.objs.size + 1) scope.names []) (bindC (envOfC qual scope s.heap.objs.size f cd).kindOf (ps.zip us) fun _ => none) s1) :
    Inv (cxOf CX P w K mg base N qual scope f cd A outer s H E) [] (start N vs) H s1 := by
  have hpl : ps.length ≤ N.length := by have := congrArg List.length S.pre; rw [List.length_take] at this; omega
  obtain ⟨h1, tk, rfl, hk⟩ := x.done
  have noA : ∀ b : Addr, b ∉ (cxOf CX P w K mg base N qual scope f cd A outer s H E).ex := fun b z => absurd (show b ∈ ([] : List Addr) from z) (by simp)
  refine ⟨⟨e0.mod, S.kind, rfl, rfl, Nat.le_refl _, fun y z c h1 h2 => ?_, fun y hy => ?_, fun y c _ h => ?_, fun _ => hd, Around.frames_deeper e0.frames, .inr ⟨rfl, rfl⟩, fun b z => absurd z (noA b), e0.bs, e0.bsz, fun b _ _ => noA b, fun b z => absurd z (noA b), e0.funs, e0.frf⟩,
    rfl, e0.bare, Un.kept hk, ⟨_, x.toInCall.ns, fun i y v h1 h2 h3 => ?_⟩, fun y c h => ⟨_, x.cell y c h⟩, e0.hok.fresh (Nat.le_refl _), fun y c h => ?_, fun p hp => absurd (show p ∈ ([] : List (Addr × Obj)) from hp) (by simp), e0.hok.kept hk, ?_⟩
  · exact name_of_addr x.apart (PySem.mem_of_lookup h1) (PySem.mem_of_lookup h2)
  · have hy : scope.names.lookup y = some .cell ∨ scope.names.lookup y = some .free := hy
    rcases hy with hy | hy
    · exact cell_has hy
    · exact absurd rfl (S.nofree _ (PySem.mem_of_lookup hy))
  · exact Nat.le_of_lt (x.above y c (PySem.mem_of_lookup h))
  · have hi : i < vs.length := by
      unfold start at h2
      by_cases hi : i < vs.length
      · exact hi
      · rw [List.getElem?_append_right (by simpa using hi)] at h2
        rw [List.getElem?_replicate] at h2
        split at h2 <;> cases h2
    have ha : vs[i]? = some v := by
      unfold start at h2
      rw [List.getElem?_append_left (by simpa using hi), List.getElem?_map] at h2
      cases e : vs[i]? with
      | none => rw [e] at h2; cases h2
      | some a => rw [e] at h2; cases h2; rfl
    obtain ⟨u, hu, rv⟩ := r.get ha
    have hp : ps[i]? = some y := by
      rw [← S.pre, List.getElem?_take_of_lt (by omega)]; exact h1
    have ndP : ps.Nodup := by rw [← S.pre]; exact S.nd.sublist (List.take_sublist _ _)
    refine ⟨u, rv, ?_⟩
    rcases S.par y (List.mem_of_getElem? hp) with k | k
    · exact .inl ⟨k, bindL_get ndP hp hu k⟩
    · obtain ⟨c, e⟩ := cell_has (n := s.heap.objs.size + 1) k
      refine .inr ⟨.inl k, c, e, ?_⟩
      have q := x.cell y c e
      rw [bindC_get ndP hp hu (by show scope.names.lookup y ≠ _; rw [k]; decide)] at q
      exact q
  · exact e0.hok.fresh (Nat.le_of_lt (x.above y c (PySem.mem_of_lookup h)))
  · unfold start
    show _ = N.length
    rw [List.length_append, List.length_map, List.length_replicate]
    omega

/-- THE RULE: a def (or a method) of the text, by its body. The body's reading t is chosen for each entry; it is run at the parameters' values -/
theorem fn_of {CX : CXT} {P : Program} {w : World} {K : PySem.W.Frag} {mg : Str → Option Value} {base : Heap} {k : Nat} {f : Addr} {name qual : Str} {params : Arguments} {body : List Stmt} {scope : Scope} {dV kV doc pm cdv ct oc : Value} {an od : Option Addr}
    {osl : Array (Option Value)} {N ps : List Str} {sp : Sp} (lk : K.lookup f = some ⟨oc, od, .func (PySem.W.fnOf name qual params body scope dV kV doc pm an cdv ct), osl⟩) (hcd : PySem.W.codeIn K cdv qual = true) (S : FnScope N ps scope)
    (len : ∀ vs H Q E, sp vs H Q E → vs.length = ps.length)
    (hbody : ∀ (A : Around) (outer : List Env) (s : Shared) (H : Hp) (vs : List V) (Q : VK) (E : XK), Room k (A.deeper (envOfC qual scope s.heap.objs.size f cdv)) → sp vs H Q E →
      ∃ t, PSs (cxOf CX P w K mg base N qual scope f cdv A outer s H E) body t ∧ t { nx := fun _ H' => Q .non H', rt := Q } (start N vs) H) :
    FnOk P w K mg base CX (k + 1) f (PySem.W.fnOf name qual params body scope dV kV doc pm an cdv ct) ps sp := by
  refine ⟨len, fun A outer s H args us vs Q E hr e0 hb r hsp => ?_⟩
  have hl := len _ _ _ _ hsp
  have KX : K.In s.heap := e0.mod.kin.keeps fun b o e => (e0.bs b o e).1
  have lim : s.heap.NoLimit := e0.mod.nolimit.keeps fun b o e => (e0.bs b o e).1
  have hkind : ∀ y ∈ ps.zip us, scope.names.lookup y.1 = some .local ∨ (scope.names.lookup y.1 = some .cell ∧ ((cellsFrom (s.heap.objs.size + 1) scope.names []).lookup y.1).isSome = true) := fun ⟨n, v⟩ hy => by
    rcases S.par n (List.of_mem_zip hy).1 with q | q
    · exact .inl q
    · exact .inr ⟨q, PySem.W.cellsFrom_some _ _ _ (.inl q)⟩
  refine codeAny_call_function hr.depth (KX _ _ lk) rfl S.co S.gen rfl (PySem.W.codeRec_of KX hcd) (hb _ _ _ _ ?_)
  refine wpAny_newFunctionEnv_cells S.kind hkind fun env he s1 x => ?_
  subst he
  refine ⟨lim.keeps x.toInCall.keep, codeAny_func ?_⟩
  obtain ⟨t, ht, hq⟩ := hbody A outer s H vs Q E (hr.deeper _) hsp
  have I : Inv (cxOf CX P w K mg base N qual scope f cdv A outer s H E) [] (start N vs) H s1 := inv_start S hr.hd e0 hl r x
  refine wpAny_mono (ht [] s1 (start N vs) H _ I hq) (fun fl s' hs => ?_) fun e s' hs => hs
  have fin : ∀ {σ' : St} {H' : Hp} {v : V} {u : Value}, Inv (cxOf CX P w K mg base N qual scope f cdv A outer s H E) [] σ' H' s' → RelV v u → Q v H' → CE outer P w H s Q u s' :=
    fun {σ' H' v u} J rv q => ⟨v, H', J.os, J.bare, J.base, J.hok, rv, q⟩
  cases fl with
  | ret u =>
    obtain ⟨v, σ', H', J, rv, q⟩ := hs
    exact fin J rv q
  | next =>
    obtain ⟨σ', H', J, q⟩ := hs
    exact fin (v := V.non) (u := Value.none) J rfl q
  | brk =>
    obtain ⟨_, _, _, q⟩ := hs
    exact False.elim q
  | cont =>
    obtain ⟨_, _, _, q⟩ := hs
    exact False.elim q
end L2

namespace L2
open PySem PySem.Spec PyProof.Rows
section
variable {X : Cx} {x : Str} {p pos : Pos} {e : Expr} {es : List Expr} {t : TA} {id T : String} {r : List V → Hp → VK → Prop}

def tCB (r : List V → Hp → VK → Prop) (t : TA) : TE := fun σ H Q => t σ H fun vs H1 => r vs H1 Q
/-- f(e, ..), f a built-in function -/
theorem pe_callB (hc : CallR X (.builtin id) r) (hg : Gl X x) (hm : X.mg x = none) (hv : bootBuiltins x = some (.builtin id)) (ha : PA X (e :: es) t) (hn : x ≠ "__name__" := by decide) (hdb : (x == ("__debug__" : Str)) = false := by decide)
    (he : starEach (e :: es) X.env = (false, eval e X.env) :: starEach es X.env := by rfl) (hpl : (backTo pos (starEach es X.env)).any (·.1) = false := by rfl) : PE X (.Call (.Name x p) (e :: es) [] pos) (tCB r t) := by
  intro pins s σ H Q I h
  refine wpAny_Call_Name_kw (ld_blt I hg hm hv ?_ hn hdb)
  exact PyProof.Rows.callWith_builtin1 (thn (ha pos pins s σ H _ I h) fun us s1 ⟨vs, H1, I1, r1, q1⟩ => hc pins s1 σ H1 vs us Q I1 r1 q1) he hpl
/-- T(e, ..), T a built-in type -/
theorem pe_callTy (hc : CallR X (.type T) r) (hg : Gl X x) (hm : X.mg x = none) (hv : bootBuiltins x = some (.type T)) (ha : PA X (e :: es) t) (hn : x ≠ "__name__" := by decide) (hdb : (x == ("__debug__" : Str)) = false := by decide)
    (he : starEach (e :: es) X.env = (false, eval e X.env) :: starEach es X.env := by rfl) (hpl : (backTo pos (starEach es X.env)).any (·.1) = false := by rfl) : PE X (.Call (.Name x p) (e :: es) [] pos) (tCB r t) := by
  intro pins s σ H Q I h
  refine wpAny_Call_Name_kw (ld_blt I hg hm hv ?_ hn hdb)
  exact PyProof.Rows.callWith_type1 (thn (ha pos pins s σ H _ I h) fun us s1 ⟨vs, H1, I1, r1, q1⟩ => hc pins s1 σ H1 vs us Q I1 r1 q1) he hpl
end
end L2

namespace HT
open PySem PyProof.Rows

section
open PySem.SeqAt
open PySem.AutoSeq1 (wpAny_loadPart')
open PySem.MeetsSeq PySem.MeetsSeq2 PySem.MeetsSeq3

end

section
variable {prog : Program} {w : World} {A : Around} {E : Value → Shared → Prop} {s : Shared}

/-- t + u, t not empty -/
theorem cat_tup {t b : Addr} {vs ws : List Value} {Q : Value → Shared → Prop} (ht : IsTup s.heap t vs.toArray) (hb : IsTup s.heap b ws.toArray) (hv : vs ≠ [])
    (h1 : ws = [] → Q (.ref t) s) (h2 : ws ≠ [] → Q (.ref s.heap.objs.size) { s with heap := s.heap.push { cls := .type "tuple", data := .seq (vs ++ ws).toArray } })
    (hsz : vs.length + ws.length ≤ sizeLine) : wpAny (model prog w) A (binaryOp .Add (.ref t) (.ref b)) Q E s := by
  obtain ⟨⟨cls, dd, data, sl⟩, ho, hc, n, hd⟩ := id ht
  obtain ⟨⟨cls2, dd2, data2, sl2⟩, ho2, hc2, n2, hd2⟩ := id hb
  simp only at hc hd hc2 hd2
  subst hc hd hc2 hd2
  have e : vs.toArray ++ ws.toArray = (vs ++ ws).toArray := by simp
  by_cases hw : ws = []
  · exact concat_meets ⟨_, ho, rfl⟩ ⟨_, ho2, rfl⟩ noFill_tuple_add seq_tuple_add PySem.F.slot_tuple_add PySem.F.entry_tuple_add (PySem.F.args_tuple_add_2 _ _)
      (tuple_addW1 t b vs.toArray ws.toArray n n2 dd dd2 sl sl2 (by simpa using hv) (by simp [hw])) ⟨ho, ho2, h1 hw⟩
  · refine concat_meets ⟨_, ho, rfl⟩ ⟨_, ho2, rfl⟩ noFill_tuple_add seq_tuple_add PySem.F.slot_tuple_add PySem.F.entry_tuple_add (PySem.F.args_tuple_add_2 _ _)
      (tuple_addW2 t b vs.toArray ws.toArray n n2 dd dd2 sl sl2 (by simpa using hv) (by simpa using hw) (by rw [List.size_toArray, List.size_toArray]; exact hsz)) ⟨ho, ho2, ?_⟩
    rw [e]
    exact h2 hw

/-! ### t[a:b], not the whole -/
/-- a slice's bound as a place among n (d where it is left out) -/
def sIx (n d : Nat) : Option Int → Nat
  | none => d
  | some v => if v < 0 then (v + (n : Int)).toNat else min v.toNat n
theorem sIx_nat (n d k : Nat) : sIx n d (some (k : Int)) = min k n := by
  show (if (k : Int) < 0 then ((k : Int) + (n : Int)).toNat else min (k : Int).toNat n) = min k n
  rw [if_neg (by omega), Int.toNat_natCast]
theorem sIx_le (n d : Nat) (hd : d ≤ n) (o : Option Int) : sIx n d o ≤ n := by
  cases o with
  | none => exact hd
  | some v =>
    show (if v < 0 then (v + (n : Int)).toNat else min v.toNat n) ≤ n
    by_cases hv : v < 0
    · rw [if_pos hv]; omega
    · rw [if_neg hv]; exact Nat.min_le_right _ _
theorem clip_eq (v : Int) (n d : Nat) : (if v < 0 then max (v + (n : Int)) 0 else min v (n : Int)) = ((sIx n d (some v) : Nat) : Int) := by
  show (if v < 0 then max (v + (n : Int)) 0 else min v (n : Int)) = (((if v < 0 then (v + (n : Int)).toNat else min v.toNat n) : Nat) : Int)
  by_cases hv : v < 0
  · simp only [if_pos hv]; omega
  · simp only [if_neg hv]; omega
theorem adjust_gen (lo hi : Option Int) (n : Nat) : Builtin.Slice.sliceAdjust lo hi 1 (n : Int) = (((sIx n 0 lo : Nat) : Int), ((sIx n n hi : Nat) : Int)) := by
  have h1 : ¬ ((1 : Int) < 0) := by omega
  unfold Builtin.Slice.sliceAdjust
  simp only [h1, if_false]
  refine Prod.ext ?_ ?_
  · cases lo with
    | none => rfl
    | some v => exact clip_eq v n 0
  · cases hi with
    | none => rfl
    | some v => exact clip_eq v n n
theorem places_gen (i j : Nat) : Builtin.Slice.slicePlaces (i : Int) (j : Int) 1 = j - i := by
  unfold Builtin.Slice.slicePlaces
  have h1 : (1 : Int) > 0 := by omega
  simp only [h1, if_true, Int.ediv_one]
  split <;> omega
theorem slicePart_ {v : Value} {o : Option Int} {Q : Option Int → Shared → Prop} (p : IsPart v o) (h : Q o s) : wpAny (model prog w) A (Builtin.Slice.slicePartIndex v) Q E s := by
  cases p with
  | none => exact slicePart_none h
  | int i t => exact slicePart_int h
theorem sliceApplied_gen {sl : Addr} {vl vu : Value} {lo hi : Option Int} {n : Nat} {Q : Int × Int × Nat → Shared → Prop} (hs : s.heap.IsSliceOf sl vl vu .none) (pl : IsPart vl lo) (pu : IsPart vu hi)
    (h : Q (((sIx n 0 lo : Nat) : Int), 1, sIx n n hi - sIx n 0 lo) s) : wpAny (model prog w) A (Builtin.Slice.sliceApplied (.ref sl) (pure (n : Int))) Q E s := by
  obtain ⟨os, hos, hcs, hds⟩ := id hs
  unfold Builtin.Slice.sliceApplied Builtin.Slice.sliceFields
  refine wpAny_bind (wpAny_bind (wpAny_field hos hds (x := vl) rfl (wpAny_bind (wpAny_field hos hds (x := vu) rfl (wpAny_bind (wpAny_field hos hds (x := .none) rfl (wpAny_pure ?_)))))))
  refine wpAny_bind (slicePart_none ?_)
  show wpAny _ _ (if ((1 : Int) == 0) = true then _ else _) _ _ s
  rw [if_neg (by decide)]
  refine wpAny_bind (slicePart_ pl (wpAny_bind (slicePart_ pu (wpAny_bind (wpAny_pure ?_)))))
  show wpAny _ _ (match Builtin.Slice.sliceAdjust lo hi 1 (n : Int) with | (lo, hi) => pure (lo, (1 : Int), Builtin.Slice.slicePlaces lo hi 1)) _ _ s
  rw [adjust_gen lo hi n]
  show wpAny _ _ (pure (((sIx n 0 lo : Nat) : Int), (1 : Int), Builtin.Slice.slicePlaces ((sIx n 0 lo : Nat) : Int) ((sIx n n hi : Nat) : Int) 1)) _ _ s
  rw [places_gen]
  exact wpAny_pure h
theorem pick_gen (xs : Array Value) (i k : Nat) : ((List.range k).filterMap fun (m : Nat) => xs[((i : Int) + (m : Int) * 1).toNat]?).toArray = ((xs.toList.drop i).take k).toArray := by
  have e : (fun (m : Nat) => xs[((i : Int) + (m : Int) * 1).toNat]?) = fun m => xs[i + m]? := by
    funext m
    have : ((i : Int) + (m : Int) * 1).toNat = i + m := by omega
    rw [this]
  rw [e]
  have := pick_run xs i k
  rw [List.filterMap_map] at this
  have e2 : ((fun x => xs[x]?) ∘ fun x => i + x) = fun m => xs[i + m]? := rfl
  rw [e2] at this
  rw [this]

theorem getItem_tuple_cut {t sl : Addr} {items : Array Value} {vl vu : Value} {lo hi : Option Int} {Q : Value → Shared → Prop} (ht : IsTup s.heap t items) (hs : s.heap.IsSliceOf sl vl vu .none) (pl : IsPart vl lo) (pu : IsPart vu hi)
    (hw : ¬ (sIx items.size 0 lo = 0 ∧ sIx items.size items.size hi = items.size))
    (h : Q (.ref s.heap.objs.size) { s with heap := s.heap.push { cls := .type "tuple", data := .seq ((items.toList.drop (sIx items.size 0 lo)).take (sIx items.size items.size hi - sIx items.size 0 lo)).toArray } })
    (hsz : items.size ≤ sizeLine) : wpAny (model prog w) A (getItem (.ref t) (.ref sl)) Q E s := by
  have htake : sizeOk (.seq ((items.toList.drop (sIx items.size 0 lo)).take (sIx items.size items.size hi - sIx items.size 0 lo)).toArray) := by
    show ((items.toList.drop (sIx items.size 0 lo)).take (sIx items.size items.size hi - sIx items.size 0 lo)).toArray.size ≤ sizeLine
    rw [List.size_toArray, List.length_take, List.length_drop, Array.length_toList]
    omega
  have hj : sIx items.size items.size hi ≤ items.size := sIx_le _ _ (Nat.le_refl _) hi
  obtain ⟨os, hos, hcs, hds⟩ := id hs
  have hTs : s.TypeIs (.ref sl) "slice" := ⟨os, hos, hcs⟩
  unfold getItem
  try with_reducible refine wpAny_holding ?_
  first | refine wpAny_bind (wpAny_pure ?_) | skip
  refine wpAny_bind (wpAny_sequenceKey ht.typeIs (by decide) ?_)
  refine wpAny_bind (wpAny_callSpecial?_slot (name := Str.ofString "__getitem__") ht.typeIs PyProof.Rows.slot_tuple_getitem
    (wpAny_call_entry PyProof.Rows.slot_tuple_getitem ht.typeIs entry_tuple_getitem ?_ (args_tuple_getitem _ _)))
  show wpAny _ _ (Builtin.Tuple.tupleItemsOf (.ref t) >>= _) _ _ s
  refine wpAny_bind (tupleItemsOf_ ht ?_)
  refine wpAny_bind (wpAny_typeOf hTs ?_)
  rw [if_pos (by decide)]
  refine wpAny_bind (sliceApplied_gen hs pl pu ?_)
  have hno : ¬ ((((sIx items.size 0 lo : Nat) : Int) == 0 && (1 : Int) == 1 && (sIx items.size items.size hi - sIx items.size 0 lo) == items.size) = true) := by
    intro q
    rw [Bool.and_eq_true, Bool.and_eq_true] at q
    have q1 : ((sIx items.size 0 lo : Nat) : Int) = 0 := eq_of_beq q.1.1
    have q2 : sIx items.size items.size hi - sIx items.size 0 lo = items.size := eq_of_beq q.2
    exact hw ⟨by omega, by omega⟩
  show wpAny _ _ (if (((sIx items.size 0 lo : Nat) : Int) == 0 && (1 : Int) == 1 && (sIx items.size items.size hi - sIx items.size 0 lo) == items.size) = true then _ else _) _ _ s
  rw [if_neg hno, pick_gen]
  first
    | exact wpAny_bind (m := Builtin.Tuple.tupleExact _) (wpAny_newObj_type (wpAny_pure ⟨_, rfl, wpAny_pure h⟩) htake)
    | exact wpAny_bind (m := Builtin.Tuple.tupleExact _) (wpAny_newObj_type (wpAny_bind (wpAny_pure (wpAny_pure ⟨_, rfl, wpAny_pure h⟩))) htake)
    | exact wpAny_bind (wpAny_bind (m := Builtin.Tuple.tupleExact _) (wpAny_newObj_type (wpAny_pure (wpAny_pure ⟨_, rfl, wpAny_pure h⟩)) htake))
    | exact wpAny_bind (wpAny_bind (m := Builtin.Tuple.tupleExact _) (wpAny_newObj_type (wpAny_pure ⟨_, rfl, wpAny_pure h⟩) htake))
end
end HT

namespace L2
open PySem PySem.Spec PyProof.Rows

/-! ### the parts of a slice -/
abbrev TO := St → Hp → (Option Int → Hp → Prop) → Prop
/-- a slice's part (left out, or an int) -/
def PO (X : Cx) (e : Option Expr) (t : TO) : Prop :=
  ∀ (pins : List (Addr × Obj)) (s : Shared) (σ : St) (H : Hp) (Q : Option Int → Hp → Prop), Inv X pins σ H s → t σ H Q →
    wpAny (model X.prog X.w) X.A (evalPart e X.env) (fun u s' => ∃ o H', Inv X pins σ H' s' ∧ IsPart u o ∧ Q o H') X.xe s
def tNoPart : TO := fun _ H Q => Q none H
def tPart (t : TE) : TO := fun σ H Q => t σ H fun x H1 => ∃ i, x = .int i ∧ Q (some i) H1

section
variable {X : Cx} {e : Expr} {te : TE} {lo hi : Option Expr} {tl th : TO} {pos p2 : Pos}

theorem po_none : PO X none tNoPart := by
  intro pins s σ H Q I h
  rw [evalPart_none]
  exact wpAny_pure ⟨none, H, I, .none, h⟩
theorem po_some (h : PE X e te) : PO X (some e) (tPart te) := by
  intro pins s σ H Q I hw
  rw [evalPart_some]
  refine thn (h pins s σ H _ I hw) fun u s1 ⟨x, H1, I1, r1, q1⟩ => ?_
  obtain ⟨i, rfl, q⟩ := q1
  obtain ⟨t, rfl⟩ := r1
  exact ⟨some i, H1, I1, .int i t, q⟩

/-- what a slice of a value is, by values: the slice object stands at sl -/
def SlR (X : Cx) (r : V → Option Int → Option Int → Hp → VK → Prop) : Prop :=
  ∀ (pins : List (Addr × Obj)) (s : Shared) (σ : St) (H : Hp) (x : V) (v vl vu : Value) (lo hi : Option Int) (sl : Addr) (Q : VK), Inv X pins σ H s → RelV x v → s.heap.IsSliceOf sl vl vu .none → IsPart vl lo → IsPart vu hi → r x lo hi H Q →
    ∃ T id, typeLookup (.type T) "__getitem__" = pure (some (.builtin id)) ∧ s.TypeIs v T ∧ wpAny (model X.prog X.w) X.A (getItem v (.ref sl)) (EP X pins σ Q) X.xe s
def tSl (r : V → Option Int → Option Int → Hp → VK → Prop) (te : TE) (tl th : TO) : TE := fun σ H Q => te σ H fun x H1 => tl σ H1 fun l H2 => th σ H2 fun u H3 => r x l u H3 Q
/-- a[lo:hi], any a -/
theorem pe_slice {r : V → Option Int → Option Int → Hp → VK → Prop} (hr : SlR X r) (he : PE X e te) (hl : PO X lo tl) (hu : PO X hi th) : PE X (.Subscript e (.Slice lo hi none p2) pos) (tSl r te tl th) := by
  intro pins s σ H Q I h
  refine Subscript_ (thn (he pins s σ H _ I h) fun v s1 ⟨x, H1, I1, r1, q1⟩ => ?_)
  refine wpAny_Slice (thn (hl pins s1 σ H1 _ I1 q1) fun vl s2 ⟨l, H2, I2, pl, q2⟩ => thn (hu pins s2 σ H2 _ I2 q2) fun vu s3 ⟨u, H3, I3, pu, q3⟩ => ?_)
  rw [evalPart_none]
  refine wpAny_pure ?_
  have I4 : Inv X pins σ H3 { s3 with heap := s3.heap.push { cls := .type "slice", data := .fields #[vl, vu, .none] } } := I3.kept (t' := s3.toks) fun b ob q => Heap.get?_push_of_some _ q
  obtain ⟨T, id, hT, ht, hg⟩ := hr pins { s3 with heap := s3.heap.push { cls := .type "slice", data := .fields #[vl, vu, .none] } } σ H3 x v vl vu l u s3.heap.objs.size Q I4 r1 (Heap.IsSliceOf.new ..) pl pu q3
  show wpAny (model X.prog X.w) X.A (subscriptTail e (.Slice lo hi none p2) v (.ref s3.heap.objs.size)) (EP X pins σ Q) X.xe { s3 with heap := s3.heap.push { cls := .type "slice", data := .fields #[vl, vu, .none] } }
  exact tail_any (ops := [.ref s3.heap.objs.size, v]) ht hT hg (by with_unfolding_all rfl)

/-- the items of xs[lo:hi] -/
def cutV (xs : List V) (lo hi : Option Int) : List V := (xs.drop (HT.sIx xs.length 0 lo)).take (HT.sIx xs.length xs.length hi - HT.sIx xs.length 0 lo)
theorem cutV_length (xs : List V) (lo hi : Option Int) : (cutV xs lo hi).length ≤ xs.length := by
  unfold cutV
  rw [List.length_take, List.length_drop]
  omega
/-- t[lo:hi], not the whole of it (the whole would be t itself) -/
def rSlT (K : PySem.W.Frag) : V → Option Int → Option Int → Hp → VK → Prop := fun x lo hi H Q => ∃ a xs, x = .ref a ∧ SqT K H a xs ∧
  ¬ (HT.sIx xs.length 0 lo = 0 ∧ HT.sIx xs.length xs.length hi = xs.length) ∧ ∀ p, H p = none → Q (.ref p) (upd H p (.tup (cutV xs lo hi)))
theorem sl_tup : SlR X (rSlT X.K) := by
  intro pins s σ H x v vl vu lo hi sl Q I rx hs pl pu h
  obtain ⟨a, xs, rfl, hx, hw, q⟩ := h
  cases rx
  obtain ⟨its, r, ht, hz⟩ := I.tuple hx
  have hlen : its.toArray.size = xs.length := by rw [List.size_toArray]; exact r.length.symm
  refine ⟨"tuple", _, PyProof.Rows.slot_tuple_getitem.lookup, ht.typeIs, ?_⟩
  refine HT.getItem_tuple_cut ht hs pl pu (by rw [hlen]; exact hw) ?_ (by rw [hlen]; exact hz)
  rw [hlen]
  refine ⟨.ref s.heap.objs.size, _, I.laid (t' := s.toks) (o := .tup (cutV xs lo hi)) (fun b ob q => Heap.get?_push_of_some _ q) (Nat.le_refl _) ?_, rfl, q _ (I.hok.fresh (Nat.le_refl _))⟩
  exact ⟨Nat.le_trans (cutV_length xs lo hi) hz, _, (r.drop (HT.sIx xs.length 0 lo)).take (HT.sIx xs.length xs.length hi - HT.sIx xs.length 0 lo), IsTup.new _ _⟩

/-! ### t < u, t + u -/
/-- t + u, t not empty: u empty gives t itself -/
def rCatT (K : PySem.W.Frag) : R2 := fun x y H Q => ∃ a b xs ys, x = .ref a ∧ y = .ref b ∧ SqT K H a xs ∧ SqT K H b ys ∧ xs ≠ [] ∧ xs.length + ys.length ≤ sizeLine ∧
  (ys = [] → Q (.ref a) H) ∧ (ys ≠ [] → ∀ p, H p = none → Q (.ref p) (upd H p (.tup (xs ++ ys))))
theorem Vals.nil_iff {xs : List V} {us : List Value} (r : Vals xs us) : us = [] ↔ xs = [] := by
  cases r with
  | nil => simp
  | cons _ _ => simp
theorem op_catT : OpR X (binaryOp .Add) (rCatT X.K) := by
  intro pins s σ H x y v u Q I rx ry h
  obtain ⟨a, b, xs, ys, rfl, rfl, ha, hb, hx, hz, q1, q2⟩ := h
  cases rx
  cases ry
  obtain ⟨its, r1, p1, _⟩ := I.tuple ha
  obtain ⟨its2, r2, p2, _⟩ := I.tuple hb
  refine HT.cat_tup p1 p2 (fun z => hx (r1.nil_iff.mp z)) (fun z => ⟨.ref a, H, I, rfl, q1 (r2.nil_iff.mp z)⟩) (fun z => ?_) (by rw [← r1.length, ← r2.length]; exact hz)
  refine ⟨.ref s.heap.objs.size, _, I.laid (t' := s.toks) (o := .tup (xs ++ ys)) (fun b ob q => Heap.get?_push_of_some _ q) (Nat.le_refl _) ?_, rfl, q2 (fun w => z (r2.nil_iff.mpr w)) _ (I.hok.fresh (Nat.le_refl _))⟩
  exact ⟨by rw [List.length_append]; exact hz, _, r1.append r2, IsTup.new _ _⟩
end
end L2

namespace L2
open PySem PySem.Spec PyProof.Rows

/-! ### places -/
/-- the place that an index of any sign means -/
def ixN (n : Nat) (i : Int) : Option Nat := if 0 ≤ i then (if i < n then some i.toNat else none) else if -(n : Int) ≤ i then some (i + n).toNat else none
def atI {α : Type} (xs : List α) (i : Int) : Option α := (ixN xs.length i).bind fun j => xs[j]?
theorem ixN_seq {n : Nat} {i : Int} {j : Nat} (h : ixN n i = some j) : seqIndex? i n = some j ∧ j < n ∧ -(n : Int) ≤ i ∧ i < n := by
  unfold ixN at h
  by_cases h0 : 0 ≤ i
  · rw [if_pos h0] at h
    by_cases h1 : i < n
    · rw [if_pos h1] at h
      have e : i.toNat = j := Option.some.inj h
      exact ⟨by rw [seqIndex_of h0 h1, e], by omega, by omega, h1⟩
    · rw [if_neg h1] at h; cases h
  · rw [if_neg h0] at h
    by_cases h1 : -(n : Int) ≤ i
    · rw [if_pos h1] at h
      have e : (i + n).toNat = j := Option.some.inj h
      exact ⟨by rw [seqIndex_neg (by omega) h1, e], by omega, h1, by omega⟩
    · rw [if_neg h1] at h; cases h
theorem atI_get {α : Type} {xs : List α} {i : Int} {v : α} (h : atI xs i = some v) : ∃ j, seqIndex? i xs.length = some j ∧ xs[j]? = some v ∧ j < xs.length ∧ -(xs.length : Int) ≤ i ∧ i < xs.length := by
  unfold atI at h
  cases e : ixN xs.length i with
  | none => rw [e] at h; cases h
  | some j =>
    rw [e] at h
    obtain ⟨h1, h2, h3, h4⟩ := ixN_seq e
    exact ⟨j, h1, h, h2, h3, h4⟩
theorem atI_nat {α : Type} {xs : List α} {j : Nat} {v : α} (h : xs[j]? = some v) : atI xs (j : Int) = some v := by
  have hj : j < xs.length := (List.getElem?_eq_some_iff.mp h).1
  have e : ixN xs.length (j : Int) = some j := by
    unfold ixN
    rw [if_pos (by omega), if_pos (by omega)]; simp
  unfold atI; rw [e]; exact h
/-! ### what may be subscripted -/
/-- what stands as an index of a plain subscript -/
def PlainIx (b : Expr) : Prop := ∀ o i, subscripted b false o i = operate [o, i] (getItem o i)
/-- a subscript by values -/
def IxR (X : Cx) (r : R2) : Prop :=
  ∀ (value slice : Expr) (pins : List (Addr × Obj)) (s : Shared) (σ : St) (H : Hp) (x y : V) (v u : Value) (Q : VK), Inv X pins σ H s → RelV x v → RelV y u → r x y H Q →
    subscripted slice false v u = operate [v, u] (getItem v u) → wpAny (model X.prog X.w) X.A (subscriptTail value slice v u) (EP X pins σ Q) X.xe s
/-- a call of a builtin's method by values: the receiver, the arguments -/
def MtR (X : Cx) (id : String) (r : V → List V → Hp → VK → Prop) : Prop :=
  ∀ (pins : List (Addr × Obj)) (s : Shared) (σ : St) (H : Hp) (x : V) (xs : List V) (v : Value) (us : List Value) (Q : VK), Inv X pins σ H s → RelV x v → Vals xs us → r x xs H Q →
    wpAny (model X.prog X.w) X.A (call (.builtin id) (v :: us)) (EP X pins σ Q) X.xe s
section
variable {X : Cx} {a b : Expr} {ta tb : TE} {pos : Pos}
/-- a[b] -/
theorem pe_ix {r : R2} (hr : IxR X r) (ha : PE X a ta) (hb : PE X b tb) (hs : PlainIx b) : PE X (.Subscript a b pos) (tOp r ta tb) := by
  intro pins s σ H Q I h
  exact Subscript_ (binT ha hb I h fun v u s2 x y H2 I2 rx ry q => hr a b pins s2 σ H2 x y v u Q I2 rx ry q (hs _ _))

def rIxL (K : PySem.W.Frag) : R2 := fun x y H Q => ∃ p xs i v, x = .ref p ∧ y = .int i ∧ SqL K H p xs ∧ atI xs i = some v ∧ Q v H
def rIxT (K : PySem.W.Frag) : R2 := fun x y H Q => ∃ p xs i v, x = .ref p ∧ y = .int i ∧ SqT K H p xs ∧ atI xs i = some v ∧ Q v H
def rIxS : R2 := fun x y H Q => ∃ z i c, x = .str z ∧ y = .int i ∧ z.length ≤ sizeLine ∧ atI z.cps.toList i = some c ∧ Q (.str ⟨#[c]⟩) H
theorem ix_list : IxR X (rIxL X.K) := by
  intro value slice pins s σ H x y v u Q I rx ry h hs
  obtain ⟨p, xs, i, z, rfl, rfl, hq, he, q⟩ := h
  cases rx
  obtain ⟨t, rfl⟩ := ry
  obtain ⟨its, r, pl, hz⟩ := I.list hq
  obtain ⟨j, h1, h2, h3, h4, h5⟩ := atI_get he
  obtain ⟨w, ew, rw'⟩ := r.get h2
  have hl := r.length
  have hn := line63
  have fin : EP X pins σ Q w s := ⟨z, H, I, rw', q⟩
  by_cases h0 : 0 ≤ i
  · have hj : i.toNat = j := by
      rw [seqIndex_of h0 h5] at h1
      exact Option.some.inj h1
    exact item_listR pl.isList h0 (by omega) (by rw [hj]; simpa using ew) fin hs
  · have hj : (i + (its.toArray.size : Int)).toNat = j := by
      rw [seqIndex_neg (by omega) h4] at h1
      rw [List.size_toArray, ← hl]
      exact Option.some.inj h1
    exact subscriptTail_builtinR (x := w) pl.isList.typeIs slot_list_getitem.lookup
      (wpAny_getItem_list_neg (Q := fun r s' => r = w ∧ EP X pins σ Q r s') pl.isList (by omega) (by rw [List.size_toArray] <;> omega) (by omega) (by rw [hj]; simpa using ew) ⟨rfl, fin⟩) hs
theorem ix_tup : IxR X (rIxT X.K) := by
  intro value slice pins s σ H x y v u Q I rx ry h hs
  obtain ⟨p, xs, i, z, rfl, rfl, hq, he, q⟩ := h
  cases rx
  obtain ⟨t, rfl⟩ := ry
  obtain ⟨its, r, pl, hz⟩ := I.tuple hq
  obtain ⟨j, h1, h2, h3, h4, h5⟩ := atI_get he
  obtain ⟨w, ew, rw'⟩ := r.get h2
  have hl := r.length
  have hn := line63
  have fin : EP X pins σ Q w s := ⟨z, H, I, rw', q⟩
  exact subscriptTail_builtinR (x := w) pl.typeIs slot_tuple_getitem.lookup
    (getItem_tuple (j := j) (Q := fun r s' => r = w ∧ EP X pins σ Q r s') pl (by omega) (by omega) (by rw [List.size_toArray, ← hl]; exact h1) (by simpa using ew) ⟨rfl, fin⟩) hs
theorem ix_str : IxR X rIxS := by
  intro value slice pins s σ H x y v u Q I rx ry h hs
  obtain ⟨z, i, c, rfl, rfl, hz, he, q⟩ := h
  obtain ⟨t, rfl⟩ := rx
  obtain ⟨t', rfl⟩ := ry
  obtain ⟨j, h1, h2, h3, h4, h5⟩ := atI_get he
  have hl : z.cps.toList.length = z.length := by simp [Str.length]
  rw [hl] at h1 h4 h5
  have hn := line63
  exact tail_any (typeIs_str s z t) slot_str_getitem.lookup (getItem_str (c := c) (by
    have e1 : decide (i < -(2 ^ 63 : Int)) = false := decide_eq_false (by omega)
    have e2 : decide (i ≥ 2 ^ 63) = false := decide_eq_false (by omega)
    rw [e1, e2, Bool.or_false]) (by rw [h1]; simpa using h2) ⟨.str ⟨#[c]⟩, H, I.tok _, ⟨_, rfl⟩, q⟩) hs
/-! ### xs[i] = v, any sign -/
/-- the list's object behind a store -/
theorem mapSeq_set (its : List Value) (n j : Nat) (u : Value) : Obj.mapSeq (·.setIfInBounds j u) { cls := .type "list", data := .seq its.toArray n } = { cls := .type "list", data := .seq (its.set j u).toArray n } := by
  simp [Obj.mapSeq]
theorem Inv.lst {pins : List (Addr × Obj)} {σ : St} {H : Hp} {s : Shared} {p : Addr} {xs : List V} (I : Inv X pins σ H s) (h : H p = some (.lst xs)) :
    ∃ (its : List Value) (n : Nat), Vals xs its ∧ s.heap.get? p = some { cls := .type "list", data := .seq its.toArray n } ∧ xs.length ≤ sizeLine := by
  obtain ⟨z, its, n, r, e⟩ := I.hok p _ h
  exact ⟨its, n, r, e, z⟩
/-- the list at p is written by an update of its object -/
theorem Inv.lstUpd {pins : List (Addr × Obj)} {σ : St} {H : Hp} {s : Shared} {p : Addr} {xs ys : List V} {its its' : List Value} {n n' : Nat} {f : Obj → Obj} (I : Inv X pins σ H s) (h : H p = some (.lst xs))
    (ho : s.heap.get? p = some { cls := .type "list", data := .seq its.toArray n }) (hf : f { cls := .type "list", data := .seq its.toArray n } = { cls := .type "list", data := .seq its'.toArray n' }) (r : Vals ys its') (hz : ys.length ≤ sizeLine) (t : Nat) :
    Inv X pins σ (upd H p (.lst ys)) { s with heap := s.heap.update p f, toks := t } := by
  have e : (s.heap.update p f).get? p = some { cls := .type "list", data := .seq its'.toArray n' } := by
    rw [Heap.get?_update_self f ho (by rw [hf] <;> rfl), hf]
  refine I.write (x := p) (e := p) (by rw [h]; trivial) (.inl rfl) (fun b u hb q => (Heap.get?_update_other _ _ (Ne.symm hb)).trans q) ⟨_, e⟩ ?_
  exact ⟨hz, its', n', r, e⟩
def rSetL : V → V → V → Hp → (Hp → Prop) → Prop := fun o i v H Q => ∃ p xs k j, o = .ref p ∧ i = .int k ∧ H p = some (.lst xs) ∧ ixN xs.length k = some j ∧ Q (upd H p (.lst (xs.set j v)))
theorem set_list : PSet X rSetL := by
  intro pins s σ H o i v ov iv u Q I ro ri rv h
  obtain ⟨p, xs, k, j, rfl, rfl, hp, hj, q⟩ := h
  cases ro
  obtain ⟨t, rfl⟩ := ri
  obtain ⟨its, n, r, ho, hz⟩ := I.lst hp
  obtain ⟨h1, h2, h3, h4⟩ := ixN_seq hj
  have hl := r.length
  have hn := line63
  have I' : Inv X pins σ (upd H p (.lst (xs.set j v))) { s with heap := s.heap.update p (Obj.mapSeq (·.setIfInBounds j u)) } :=
    I.lstUpd hp ho (mapSeq_set its n j u) (r.set rv j) (by rw [List.length_set]; exact hz) s.toks
  by_cases h0 : 0 ≤ k
  · have hk : k.toNat = j := by
      rw [seqIndex_of h0 h4] at h1
      exact Option.some.inj h1
    exact PySem.W.ki_setAt ho h0 (by omega) (by rw [List.size_toArray, ← hl]; exact h4) (by rw [hk]; exact ⟨_, I', q⟩)
  · have hk : (k + (its.toArray.size : Int)).toNat = j := by
      rw [seqIndex_neg (by omega) h3] at h1
      rw [List.size_toArray, ← hl]
      exact Option.some.inj h1
    exact PySem.W.ki_setBack ho (by omega) (by rw [List.size_toArray, ← hl]; exact h3) (by omega) (by rw [hk]; exact ⟨_, I', q⟩)

/-! ### slices -/
theorem slice_bounds (lo hi : Option Int) (n : Nat) : (sliceBounds lo hi none n).1 = ((HT.sIx n 0 lo : Nat) : Int) ∧ (sliceBounds lo hi none n).2.1 = ((HT.sIx n n hi : Nat) : Int) ∧ (sliceBounds lo hi none n).2.2 = 1 := by
  refine ⟨?_, ?_, rfl⟩
  · cases lo with
    | none => simp [sliceBounds, HT.sIx]
    | some i =>
      simp only [sliceBounds, HT.sIx, Option.getD_none, show (1 : Int) > 0 by decide, if_true]
      by_cases h : i < 0
      · simp only [h, if_true] <;> omega
      · simp only [h, if_false] <;> omega
  · cases hi with
    | none => simp [sliceBounds, HT.sIx]
    | some i =>
      simp only [sliceBounds, HT.sIx, Option.getD_none, show (1 : Int) > 0 by decide, if_true]
      by_cases h : i < 0
      · simp only [h, if_true] <;> omega
      · simp only [h, if_false] <;> omega
theorem slicePick_cut (its : List Value) (lo hi : Option Int) : slicePick its.toArray lo hi none = ((its.drop (HT.sIx its.length 0 lo)).take (HT.sIx its.length its.length hi - HT.sIx its.length 0 lo)).toArray := by
  obtain ⟨h1, h2, h3⟩ := slice_bounds lo hi its.toArray.size
  unfold slicePick
  rw [h1, h2, h3]
  simp only [sliceRange_one, pick_run, List.size_toArray] <;> rfl
/-- xs[lo:hi] of a list: a new list -/
def rSlL (K : PySem.W.Frag) : V → Option Int → Option Int → Hp → VK → Prop := fun x lo hi H Q => ∃ a xs, x = .ref a ∧ SqL K H a xs ∧ ∀ p, H p = none → Q (.ref p) (upd H p (.lst (cutV xs lo hi)))
theorem sl_list : SlR X (rSlL X.K) := by
  intro pins s σ H x v vl vu lo hi sl Q I rx hs pl pu h
  obtain ⟨a, xs, rfl, hx, q⟩ := h
  cases rx
  obtain ⟨its, r, ht, hz⟩ := I.list hx
  have hlen := r.length
  refine ⟨"list", _, slot_list_getitem.lookup, ht.isList.typeIs, ?_⟩
  refine wpAny_getItem_list_slice ht.isList hs pl pu .none (by simp) ?_ (by rw [List.size_toArray] <;> omega)
  rw [slicePick_cut, ← hlen]
  refine ⟨.ref s.heap.objs.size, _, I.laid (t' := s.toks) (o := .lst (cutV xs lo hi)) (fun b ob q => Heap.get?_push_of_some _ q) (Nat.le_refl _) ?_, rfl, q _ (I.hok.fresh (Nat.le_refl _))⟩
  exact ⟨Nat.le_trans (cutV_length xs lo hi) hz, _, 0, (r.drop (HT.sIx xs.length 0 lo)).take (HT.sIx xs.length xs.length hi - HT.sIx xs.length 0 lo), Heap.get?_push_size _ rfl⟩

/-! ### in, not in: flat items -/
def flatV : V → Bool
  | .non => true
  | .bl _ => true
  | .int _ => true
  | .str _ => true
  | _ => false
/-- == of flat values -/
def eqV : V → V → Bool
  | .non, .non => true
  | .bl a, .bl b => a == b
  | .bl a, .int b => (if a then 1 else 0) == b
  | .int a, .bl b => a == (if b then 1 else 0)
  | .int a, .int b => a == b
  | .str a, .str b => a == b
  | _, _ => false
theorem eqAt_V {A : Around} {s : Shared} {y x : V} {u v : Value} (ry : RelV y u) (rx : RelV x v) (fy : flatV y = true) (fx : flatV x = true) : SeqAt.EqAt A s u v (eqV y x) := by
  cases y with
  | non =>
    cases ry
    cases x with
    | non => cases rx; exact SeqAt.EqAt.same _
    | bl b => cases rx; exact SeqAt.EqAt.none_bool b
    | int b => obtain ⟨t, rfl⟩ := rx; exact SeqAt.EqAt.none_int b t
    | str b => obtain ⟨t, rfl⟩ := rx; exact SeqAt.EqAt.none_str b t
    | _ => exact absurd (show false = true from fx) Bool.false_ne_true
  | bl a =>
    cases ry
    cases x with
    | non => cases rx; exact SeqAt.EqAt.bool_none a
    | bl b => cases rx; exact SeqAt.EqAt.bool_bool a b
    | int b => obtain ⟨t, rfl⟩ := rx; exact SeqAt.EqAt.bool_int a b t
    | str b => obtain ⟨t, rfl⟩ := rx; exact SeqAt.EqAt.bool_str a b t
    | _ => exact absurd (show false = true from fx) Bool.false_ne_true
  | int a =>
    obtain ⟨t', rfl⟩ := ry
    cases x with
    | non => cases rx; exact SeqAt.EqAt.int_none a t'
    | bl b => cases rx; exact SeqAt.EqAt.int_bool a t' b
    | int b => obtain ⟨t, rfl⟩ := rx; exact SeqAt.EqAt.int_int a t' b t
    | str b => obtain ⟨t, rfl⟩ := rx; exact SeqAt.EqAt.int_str a t' b t
    | _ => exact absurd (show false = true from fx) Bool.false_ne_true
  | str a =>
    obtain ⟨t', rfl⟩ := ry
    cases x with
    | non => cases rx; exact SeqAt.EqAt.str_none a t'
    | bl b => cases rx; exact SeqAt.EqAt.str_bool a t' b
    | int b => obtain ⟨t, rfl⟩ := rx; exact SeqAt.EqAt.str_int a t' b t
    | str b => obtain ⟨t, rfl⟩ := rx; exact SeqAt.EqAt.str_str a t' b t
    | _ => exact absurd (show false = true from fx) Bool.false_ne_true
  | _ => exact absurd (show false = true from fy) Bool.false_ne_true
/-- the items' answers, read off the values (a value's own answer does not lean on its token) -/
def eqU (x : V) (u : Value) : Bool := match u with
  | .none => eqV .non x
  | .bool b => eqV (.bl b) x
  | .int i _ => eqV (.int i) x
  | .str z _ => eqV (.str z) x
  | _ => false
theorem eqU_of {x y : V} {u : Value} (r : RelV y u) (f : flatV y = true) : eqU x u = eqV y x := by
  cases y with
  | non => cases r; rfl
  | bl b => cases r; rfl
  | int i => obtain ⟨t, rfl⟩ := r; rfl
  | str z => obtain ⟨t, rfl⟩ := r; rfl
  | _ => exact absurd (show false = true from f) Bool.false_ne_true
theorem any_eqU {x : V} : ∀ {xs : List V} {us : List Value}, Vals xs us → xs.all flatV = true → us.any (eqU x) = xs.any fun y => eqV y x
  | _, _, .nil, _ => rfl
  | y :: xs, u :: us, .cons r t, f => by
    rw [List.all_cons, Bool.and_eq_true] at f
    rw [List.any_cons, List.any_cons, eqU_of r f.1, any_eqU t f.2]
theorem mem_eqAt {A : Around} {s : Shared} {x : V} {v : Value} (rx : RelV x v) (fx : flatV x = true) : ∀ {xs : List V} {us : List Value}, Vals xs us → xs.all flatV = true → ∀ u ∈ us, SeqAt.EqAt A s u v (eqU x u)
  | _, _, .nil, _ => fun u hu => by cases hu
  | y :: xs, u :: us, .cons r t, f => fun u' hu => by
    rw [List.all_cons, Bool.and_eq_true] at f
    rcases List.mem_cons.mp hu with rfl | hu
    · rw [eqU_of r f.1]; exact eqAt_V r rx f.1 fx
    · exact mem_eqAt rx fx t f.2 u' hu
def inV (x : V) (xs : List V) : Bool := xs.any fun y => eqV y x
/-- x in a list or tuple of flat items -/
def rIn (K : PySem.W.Frag) (neg : Bool) : R2 := fun x y H Q => ∃ p xs, y = .ref p ∧ (SqL K H p xs ∨ SqT K H p xs) ∧ flatV x = true ∧ xs.all flatV = true ∧ Q (.bl (if neg then !inV x xs else inV x xs)) H
theorem op_in_seq : OpR X (compareOp .In) (rIn X.K false) := by
  intro pins s σ H x y v u Q I rx ry h
  obtain ⟨p, xs, rfl, hq, fx, fs, q⟩ := h
  cases ry
  rcases hq with hq | hq
  · obtain ⟨its, r, pl, hz⟩ := I.list hq
    refine SeqAt.in_listAt (eqU x) pl.isList (fun w hw => mem_eqAt rx fx r fs w (by simpa using hw)) ⟨.bl _, H, I, rfl, ?_⟩
    rw [show its.toArray.any (eqU x) = its.any (eqU x) by simp, any_eqU r fs]
    exact q
  · obtain ⟨its, r, pl, hz⟩ := I.tuple hq
    refine SeqAt.in_tupleAt (eqU x) pl (fun w hw => mem_eqAt rx fx r fs w (by simpa using hw)) ⟨.bl _, H, I, rfl, ?_⟩
    rw [show its.toArray.any (eqU x) = its.any (eqU x) by simp, any_eqU r fs]
    exact q
/-! ### len, list(x), tuple(x) of any list or tuple that is read -/
theorem call_len_seq : CallR X (.builtin "len") (fun xs H Q => ∃ p ys, xs = [.ref p] ∧ (SqL X.K H p ys ∨ SqT X.K H p ys) ∧ Q (.int ys.length) H) := by
  intro pins s σ H xs us Q I r h
  obtain ⟨p, ys, rfl, hq, q⟩ := h
  obtain ⟨u, rfl, rx⟩ := vals1 r
  cases rx
  have hn := line63
  rcases hq with hq | hq
  · obtain ⟨its, r', pl, hz⟩ := I.list hq
    have hlen := r'.length
    exact Calls.call_len_list pl.isList (by simp only [List.size_toArray] <;> omega) ⟨.int ys.length, H, I.tok _, ⟨s.toks + 1, by rw [List.size_toArray, hlen]⟩, q⟩
  · obtain ⟨its, r', pl, hz⟩ := I.tuple hq
    have hlen := r'.length
    exact len_tuple pl (by simp only [List.size_toArray] <;> omega) ⟨.int ys.length, H, I.tok _, ⟨s.toks + 1, by rw [List.size_toArray, hlen]⟩, q⟩
theorem call_list_of : CallR X (.type "list") (fun xs H Q => ∃ p ys, xs = [.ref p] ∧ (SqL X.K H p ys ∨ SqT X.K H p ys) ∧ ∀ l, H l = none → Q (.ref l) (upd H l (.lst ys))) := by
  intro pins s σ H xs us Q I r h
  obtain ⟨p, ys, rfl, hq, q⟩ := h
  obtain ⟨u, rfl, rx⟩ := vals1 r
  cases rx
  have fin : ∀ (its : List Value), Vals ys its → ys.length ≤ sizeLine → ∀ (h' : Heap) (c' : Nat), (∀ b o', s.heap.get? b = some o' → h'.get? b = some o') →
      h'.get? s.heap.objs.size = some { cls := .type "list", dict := none, data := .seq its.toArray c', slots := #[] } → EP X pins σ Q (.ref s.heap.objs.size) { s with heap := h' } := fun its r' hz h' c' kp e =>
    ⟨.ref s.heap.objs.size, _, I.laid (t' := s.toks) kp (Nat.le_refl _) (show ObjOk X.prog X.w _ h' _ (.lst ys) from ⟨hz, its, c', r', e⟩), rfl, q _ (I.hok.fresh (Nat.le_refl _))⟩
  rcases hq with hq | hq
  · obtain ⟨its, r', pl, hz⟩ := I.list hq
    have hlen := r'.length
    obtain ⟨o, ho, hc, n, hd⟩ := pl.isList
    exact call_list_seq p (.inl rfl) ho hc hd (fun h' c' kp e => fin its r' hz h' c' kp e) (by simp only [List.size_toArray] <;> omega)
  · obtain ⟨its, r', pl, hz⟩ := I.tuple hq
    have hlen := r'.length
    obtain ⟨o, ho, hc, n, hd⟩ := pl
    exact call_list_seq p (.inr rfl) ho hc hd (fun h' c' kp e => fin its r' hz h' c' kp e) (by simp only [List.size_toArray] <;> omega)
/-! ### the call of a builtin's method: o.m(..) -/
/-- the value is of that builtin type -/
def tyV (K : PySem.W.Frag) (T : String) (x : V) (H : Hp) : Prop := match x with
  | .str _ => T = "str"
  | .int _ => T = "int"
  | .ref p => (T = "list" ∧ ∃ xs, SqL K H p xs) ∨ (T = "tuple" ∧ ∃ o, K.lookup p = some o ∧ o.cls = .type "tuple" ∧ o.dict = none) ∨
      (T = "dict" ∧ ((∃ kvs, H p = some (.dK kvs)) ∨ ∃ kvs, H p = some (.dT kvs))) ∨ (T = "set" ∧ ∃ S n, H p = some (.set S n))
  | _ => False
theorem tyV_is {pins : List (Addr × Obj)} {σ : St} {H : Hp} {s : Shared} {T : String} {x : V} {v : Value} (I : Inv X pins σ H s) (r : RelV x v) (ty : tyV X.K T x H) :
    s.TypeIs v T ∧ ∀ a, v = .ref a → ∃ ob, s.heap.get? a = some ob ∧ ob.dict = none := by
  cases x with
  | str z =>
    obtain ⟨t, rfl⟩ := r
    cases (show T = "str" from ty)
    exact ⟨typeIs_str s z t, fun _ e => nomatch e⟩
  | int i =>
    obtain ⟨t, rfl⟩ := r
    cases (show T = "int" from ty)
    exact ⟨typeIs_int s i t, fun _ e => nomatch e⟩
  | ref p =>
    cases r
    rcases ty with ⟨rfl, xs, hq⟩ | ⟨rfl, o, hk, hc, hd⟩ | ⟨rfl, hk⟩ | ⟨rfl, S, n, hk⟩
    · obtain ⟨its, _, pl, _⟩ := I.list hq
      refine ⟨pl.isList.typeIs, fun a e => ?_⟩
      cases e
      obtain ⟨o, n, e, c, hd, _⟩ := pl
      exact ⟨o, e, hd⟩
    · refine ⟨⟨o, I.kIn p o hk, hc⟩, fun a e => ?_⟩
      cases e
      exact ⟨o, I.kIn _ o hk, hd⟩
    · have z : ∃ o, s.heap.get? p = some o ∧ o.ExactDict := by
        rcases hk with ⟨kvs, hk⟩ | ⟨kvs, hk⟩
        · obtain ⟨_, _, _, _, o, _, _, e, ex, _⟩ := I.hok p _ hk
          exact ⟨o, e, ex⟩
        · obtain ⟨_, _, _, _, o, _, _, e, ex, _⟩ := I.hok p _ hk
          exact ⟨o, e, ex⟩
      obtain ⟨o, e, ex⟩ := z
      refine ⟨⟨o, e, ex.1⟩, fun a e2 => ?_⟩
      cases e2
      exact ⟨o, e, ex.2.1⟩
    · obtain ⟨o, _, _, _, e, ex, _⟩ := I.hok p _ hk
      refine ⟨⟨o, e, ex.1⟩, fun a e2 => ?_⟩
      cases e2
      exact ⟨o, e, ex.2.1⟩
  | _ => exact False.elim ty
def tBM (K : PySem.W.Frag) (T : String) (r : V → List V → Hp → VK → Prop) (to : TE) (t : TA) : TE := fun σ H Q => to σ H fun x H1 => tyV K T x H1 ∧ t σ H1 fun xs H2 => r x xs H2 Q
variable {o e : Expr} {es : List Expr} {to : TE} {t : TA} {name : Str} {apos cpos : Pos} {T id : String} {r : V → List V → Hp → VK → Prop}
theorem pe_bm (pa : PlainAttrs T) (slot : Slot T name id) (hty : typeOf (.builtin id) = pure (.type "method_descriptor")) (hm : MtR X id r) (ho : PE X o to) (ha : PA X (e :: es) t)
    (hbase : attributeBase o name X.env (eval o X.env) = eval o X.env := by rfl)
    (hfew : ((backTo cpos (starEach (e :: es) X.env)).all (fun x => !x.1) && (backToKw cpos (keywordEach [] X.env)).all (fun x => x.1.isSome)
      && decide ((e :: es).length + ([] : List Keyword).length + (if ([] : List Keyword).isEmpty then 0 else 1) < 30)) = true := by rfl)
    (hline : (apos.endLine == cpos.line) = true := by rfl) (hs : starEach (e :: es) X.env = (false, eval e X.env) :: starEach es X.env := by rfl) (hplain : (backTo cpos (starEach es X.env)).any (·.1) = false := by rfl) :
    PE X (.Call (.Attribute o name apos) (e :: es) [] cpos) (tBM X.K T r to t) := by
  intro pins s σ H Q I h
  refine wpAny_Call_method_late hbase hfew hline rfl (thn (ho pins s σ H _ I h) fun v s1 ⟨x, H1, I1, r1, ty, q1⟩ => ?_)
  obtain ⟨h1, h2⟩ := tyV_is I1 r1 ty
  refine ⟨T, id, pa, slot, hty, h1, h2, ?_⟩
  have hA := ha cpos pins s1 σ H1 _ I1 q1
  rw [hs] at hA ⊢
  refine Calls.callWith_builtin (by show (false || (backTo cpos (starEach es X.env)).any (·.1)) = false; rw [hplain] <;> rfl) (Calls.evalArgs_plain ?_)
  exact thn hA fun us s2 ⟨vs, H2, I2, r2, q2⟩ => hm pins s2 σ H2 x vs v us Q I2 r1 r2 q2
/- xs.append(e), list.index on a module's tuple .. are MtR facts of 06m -/
end
end L2

namespace L2
open PySem PySem.Spec PyProof.Rows

def MtM (X : Cx) (id : String) (r : V → List V → Hp → VK → Prop) : Prop :=
  ∀ (pins : List (Addr × Obj)) (s : Shared) (σ : St) (H : Hp) (x : V) (xs : List V) (v : Value) (us : List Value) (Q : VK), Inv X pins σ H s → RelV x v → Vals xs us → r x xs H Q →
    wpAny (model X.prog X.w) X.A (call (.builtin id) (v :: us)) (EP X pins σ Q) X.xe s

/-! ### lists of values -/
theorem Vals.one : ∀ {x : V} {us : List Value}, Vals [x] us → ∃ u, us = [u] ∧ RelV x u
  | _, _, .cons r .nil => ⟨_, rfl, r⟩
section
variable {X : Cx} {pins : List (Addr × Obj)} {σ : St} {H : Hp} {s : Shared} {l b : Addr} {xs ys zs : List V}

/-! ### the two steps: a tracked list is rewritten, a new list is laid -/
theorem Inv.lset {its its' : List Value} {n : Nat} {f : Array Value → Array Value} {t' : Nat} (I : Inv X pins σ H s) (hH : H l = some (.lst xs))
    (e : s.heap.get? l = some { cls := .type "list", data := .seq its.toArray n }) (hf : f its.toArray = its'.toArray) (hv : Vals ys its') (hz : ys.length ≤ sizeLine) :
    Inv X pins σ (upd H l (.lst ys)) { s with heap := s.heap.update l (Obj.mapSeq f), toks := t' } := by
  have q := PySem.IsL.update e f
  rw [hf] at q
  refine I.write (x := l) (e := l) (by rw [hH]; exact trivial) (.inl rfl) (fun b' u hb hu => (Heap.get?_update_other s.heap (Obj.mapSeq f) (Ne.symm hb)).trans hu) ⟨_, q⟩ ?_
  exact ⟨hz, its', _, hv, q⟩
theorem Inv.lnew {its : List Value} {t' : Nat} (I : Inv X pins σ H s) (hv : Vals ys its) (hz : ys.length ≤ sizeLine) :
    Inv X pins σ (upd H s.heap.objs.size (.lst ys)) { s with heap := s.heap.push { cls := .type "list", data := .seq its.toArray }, toks := t' } :=
  I.laid (fun _ _ q => Heap.get?_push_of_some _ q) (Nat.le_refl _) ⟨hz, its, 0, hv, Heap.get?_push_size _ rfl⟩
theorem Inv.fresh (I : Inv X pins σ H s) : H s.heap.objs.size = none := I.hok.fresh (Nat.le_refl _)
theorem Inv.lstM (I : Inv X pins σ H s) (hH : H l = some (.lst xs)) : xs.length ≤ sizeLine ∧ ∃ (its : List Value) (n : Nat), Vals xs its ∧ xs.length = its.length ∧ s.heap.get? l = some { cls := .type "list", data := .seq its.toArray n } := by
  obtain ⟨z, its, n, r, e⟩ := I.hok l _ hH
  exact ⟨z, its, n, r, r.length, e⟩

end

section
variable {X : Cx}

/-! ### methods -/
def rAppend : V → List V → Hp → VK → Prop := fun x vs H Q => ∃ l xs y, x = .ref l ∧ vs = [y] ∧ H l = some (.lst xs) ∧ xs.length < sizeLine ∧ Q .non (upd H l (.lst (xs ++ [y])))
theorem mt_append : MtM X "list.append" rAppend := by
  intro pins s σ H x vs v us Q I rx rv h
  obtain ⟨l, xs, y, rfl, rfl, hH, hz, q⟩ := h
  cases rx
  obtain ⟨u, rfl, ru⟩ := rv.one
  obtain ⟨z, its, n, r, hl, e⟩ := I.lstM hH
  refine call_meets F.slot_list_append ⟨_, e, rfl⟩ F.entry_list_append (F.args_list_append_2 _ _) (PySem.list_append l its.toArray n u (by rw [List.size_toArray]; omega)) ⟨e, ?_⟩
  refine ⟨.non, _, I.lset (its' := its ++ [u]) hH e (by simp) (r.append (.cons ru .nil)) ?_, rfl, q⟩
  rw [List.length_append, List.length_singleton]
  omega

/-! ### list + list, list += list, list * int -/
def rCat : R2 := fun x y H Q => ∃ l b xs zs, x = .ref l ∧ y = .ref b ∧ H l = some (.lst xs) ∧ H b = some (.lst zs) ∧ xs.length + zs.length ≤ sizeLine ∧ ∀ p, H p = none → Q (.ref p) (upd H p (.lst (xs ++ zs)))
theorem op_cat : OpR X (binaryOp .Add) rCat := by
  intro pins s σ H x y v u Q I rx ry h
  obtain ⟨l, b, xs, zs, rfl, rfl, hH, hB, hz, q⟩ := h
  cases rx
  cases ry
  obtain ⟨z, its, n, r, hl, e⟩ := I.lstM hH
  obtain ⟨z2, its2, n2, r2, hl2, e2⟩ := I.lstM hB
  refine PySem.P.add_list e e2 ?_ (by rw [List.size_toArray, List.size_toArray]; omega)
  have ea : its.toArray ++ its2.toArray = (its ++ its2).toArray := by simp
  rw [ea]
  exact ⟨.ref _, _, I.lnew (t' := s.toks) (r.append r2) (by rw [List.length_append]; omega), rfl, q _ I.fresh⟩
/-! ### del xs[i] -/
end

/-! ### xs[a:b] = ys -/
section
variable {prog : Program} {w : World} {A : Around} {E : Value → Shared → Prop} {s : Shared}
end

section
variable {X : Cx}
end
end L2

namespace Att
open PySem PySem.W PySem.Calls PyProof.Rows

/-! ### the script -/
theorem ints_of_wellAll {P : Params} {h : Heap} : ∀ (ns : List Int) (vs : List Value), WellAll P h vs (ns.map WData.int) → IntsAre vs ns := by
  intro ns
  induction ns with
  | nil =>
    intro vs w
    rw [List.map_nil] at w
    cases w
    exact .nil
  | cons n ns ih =>
    intro vs w
    rw [List.map_cons] at w
    cases w with
    | cons a b =>
      cases a
      exact .cons _ _ (ih _ b)

theorem script_of {l : OpenLaw} {n : Nat} (hn : l.most = some n) {P : Params} {h : Heap} {args : List WData} {vals : List Value}
    (hpre : l.row.toRowW.claim.pre args = true) (hwl : WellAll P h vals args) :
    ∃ a vs ns, vals = [Value.ref a] ∧ args = [WData.list (ns.map WData.int)] ∧ h.get? a = some { cls := .type "list", data := .seq vs.toArray } ∧ IntsAre vs ns ∧ ns.length ≤ n := by
  have hsh : WShape.hasAll [] args [.list .int] = true := (pre_splitW hpre).1
  have hc : l.pre.holds [] { args := args } = true := (pre_splitW hpre).2
  obtain ⟨d, r, rfl, h1, h2⟩ := hasAllW_cons hsh
  obtain rfl := hasAllW_nil h2
  obtain ⟨xs, rfl, h3⟩ := hasW_list h1
  obtain ⟨ns, rfl⟩ := items_int h3
  have hlen : ns.length ≤ n := by
    unfold OpenLaw.pre at hc
    have h4 : (WTm.not (.lt (.lit (.int (n : Int))) (.len (.arg 0)))).holds [] { args := [.list (ns.map .int)] } = true := by
      have h4 := (holds_andW hc).1
      rw [hn] at h4
      exact h4
    have h5 := condW_of h4 (w_not (w_lt w_lit (w_len_list (w_arg rfl))))
    rw [List.length_map] at h5
    refine Nat.le_of_not_lt fun q => ?_
    have q' : (n : Int) < ((ns.length : Nat) : Int) := by omega
    first
      | (rw [decide_eq_true q'] at h5; exact absurd h5 (by decide))
      | (simp at h5; omega)
  cases hwl with
  | cons w1 w2 =>
    cases w2
    cases w1 with
    | list ho hall => exact ⟨_, _, ns, rfl, rfl, ho, ints_of_wellAll ns _ hall, hlen⟩

theorem post_true (l : OpenLaw) (args : List WData) : l.row.toRowW.claim.post args (.bool true) args = true :=
  postW_of (r := l.row.toRowW) (X := (true == true))
    (show WShape.has [] (.bool true) .bool = true by first | rfl | decide | simp [WShape.has, WShape.arms, WShape.armsAll])
    (show (WTm.eq .res (.lit (.bool true))).value [] { args := args, res := some (.bool true), after := args } = some (.bool (true == true)) from w_eq_bool (w_res rfl) w_lit) rfl

/-! ### the attachment: holds_open's last premise (the goal 'hc' behind k_head) from a wpAny of the law's body -/
/-- the same from a codeAny of the CALL (for a layer whose function contracts speak of calls) -/
theorem attach_call {l : OpenLaw} {n : Nat} {q : Program} {loose : List Str} {XP : (Str → Option Value) → Heap → Prop} {YP : World → Heap → Prop} {d : DefRec}
    (hn : l.most = some n) (hdf : d.params.defaults = [])
    (call : ∀ (w : World) (s₀ s₁ : Shared) (mg mb : Str → Option Value) (fa : Addr) (o : Obj) (pm cd doc : Value) (a : Addr) (vs : List Value) (ns : List Int),
      Ground q loose [] XP w s₀ mg mb s₁.heap → YP w s₁.heap →
      s₁.heap.get? fa = some o → o.data = .func (docDef d.name d.params d.body d.scope pm cd doc) → s₁.heap.CodeRec cd d.name → mg d.name = some (.ref fa) →
      s₁.heap.get? a = some { cls := .type "list", data := .seq vs.toArray } → IntsAre vs ns → ns.length ≤ n → s₁.gens = #[] →
      codeAny (model l.prog w) callerA (.call (.ref fa) ⟨[.ref a], []⟩) (fun r s' => r = .ok (.ret (.bool true)) ∧ OldK s₁.heap s'.heap ∧ s'.os = s₁.os ∧ AllBare s'.gens) s₁) :
    WalkO q loose XP YP l.row.toRowW d [] (fun f vs => PySem.call f vs) := by
  intro w s₀ s₁ mg mb G Y fa o pm cd doc dV kV ho hd hcd hD hmg hg args vals as hpre hlay hrd hwl hlo
  obtain rfl : dV = .none := Dflts.none hD hdf
  obtain rfl : kV = .none := Dflts.noKw hD
  obtain ⟨a, vs, ns, rfl, rfl, hobj, hints, hlen⟩ := script_of hn hpre hwl
  refine enter_call (codeAny_mono (call w s₀ s₁ mg mb fa o pm cd doc a vs ns G Y ho (fd_plain hd) hcd hmg hobj hints hlen hg) fun r s' hq => ?_)
  obtain ⟨rfl, h2, h3, h4⟩ := hq
  exact ⟨.inl ⟨.bool true, .bool true, [], rfl, fun _ => rfl, .bool true, post_true l _, fun _ => ⟨List.Pairwise.nil, fun _ hm => (nomatch hm)⟩⟩, h2, h3, h4⟩

/-! ### rules over ANY heap (no ledger) from facts about the written part K: the library's own take a ledger (News) for what they write -/
section
variable {prog : Program} {w : World} {A : Around} {E : Value → Shared → Prop} {s : Shared} {K : Frag}

/-! the whole heap as the ledger: makes every rule that writes through a ledger a rule over any heap -/
end
end Att

namespace L2
open PySem PySem.Spec PyProof.Rows

theorem vals_ints : ∀ {vs : List Value} {ns : List Int}, IntsAre vs ns → Vals (ns.map V.int) vs
  | _, _, .nil => .nil
  | _, _, .cons n t h => .cons ⟨t, rfl⟩ (vals_ints h)

/-- nothing is tracked but the script, known to the object (or it is an object of the module) -/
def Only (H : Hp) : Prop := ∀ b, H b = none ∨ ∃ o xs, H b = some (.frz o (.lst xs))

/-- THE HEAD: the law's promise, at the heap behind the top. F, the promise of the law's def, may use that base is part of the heap (so K.In base, base.Ns mainGlobals mg stand in Mod) -/
theorem law_call {P : Program} {w : World} {K : PySem.W.Frag} {mg mb : Str → Option Value} {CX : CXT} {k : Nat} {fa a : Addr} {fd : FuncData} {x : Str} {sp : Sp} {s₁ : Shared} {vs : List Value} {ns : List Int}
    (KX : K.In s₁.heap) (hns : s₁.heap.Ns mainGlobals mg) (hb : s₁.heap.Ns builtinsNs mb) (hbb : ∀ x : Str, x ≠ "__name__" → mb x = bootBuiltins x) (hlim : s₁.heap.NoLimit) (hg : s₁.gens = #[])
    (ha : s₁.heap.get? a = some { cls := .type "list", data := .seq vs.toArray }) (hi : IntsAre vs ns) (hl : ns.length ≤ sizeLine) (hr : Room k callerA)
    (F : ∀ base : Heap, K.In base → base.Ns mainGlobals mg → FnOk P w K mg base CX k fa fd [x] sp) (hbind : ∀ (s : Shared) (u : Value), BindsTo s fd ⟨[u], []⟩ [(x, u)])
    (hsp : ∀ H : Hp, Only H → SqL K H a (ns.map V.int) → sp [.ref a] H (fun v _ => v = .bl true) fun _ _ _ => False)
    (hCX : ∀ H e s', CX [] H s₁ (fun _ _ _ => False) e s' → False) :
    codeAny (model P w) callerA (.call (.ref fa) ⟨[.ref a], []⟩) (fun r s' => r = .ok (.ret (.bool true)) ∧ OldK s₁.heap s'.heap ∧ s'.os = s₁.os ∧ AllBare s'.gens) s₁ := by
  have rv := vals_ints hi
  have lenV := hi.length
  -- from an abstract heap in which nothing but the script may be tracked
  have core : ∀ H : Hp, Only H → SqL K H a (ns.map V.int) → HOk P w H s₁.heap → (∀ b, H b ≠ none → b = a) → (H a ≠ none → K.lookup a = none) →
      codeAny (model P w) callerA (.call (.ref fa) ⟨[.ref a], []⟩) (fun r s' => r = .ok (.ret (.bool true)) ∧ OldK s₁.heap s'.heap ∧ s'.os = s₁.os ∧ AllBare s'.gens) s₁ := by
    intro H hO hS hok hA hK
    have base_of : ∀ {b : Addr} {o : Obj}, s₁.heap.get? b = some o → H b = none → (hidT s₁.heap H).get? b = some o := fun e n => hidT_get e n
    have noA : ∀ {b : Addr} {o : Obj} {es : Array DictEntry} {ep : Nat}, s₁.heap.get? b = some o → o.data = .dict es ep → H b = none := fun {b o es ep} e d => by
      cases q : H b with
      | none => rfl
      | some u =>
        have e' : b = a := hA b (by rw [q]; simp)
        subst e'
        rw [ha] at e; cases e
        have d' : Data.seq vs.toArray _ = Data.dict es ep := d
        cases d'
    have nsK : ∀ {b : Addr} {m : Str → Option Value}, s₁.heap.Ns b m → (hidT s₁.heap H).Ns b m := fun {b m} ⟨o, es, ep, e, d, r⟩ => ⟨o, es, ep, base_of e (noA e d), d, r⟩
    have hKb : K.In (hidT s₁.heap H) := fun b o e => base_of (KX b o e) (by
      cases q : H b with
      | none => rfl
      | some u =>
        have e' : b = a := hA b (by rw [q]; simp)
        subst e'
        rw [hK (by rw [q]; simp)] at e; cases e)
    have hM : Mod K mg (hidT s₁.heap H) := ⟨hKb, nsK hns, ⟨mb, nsK hb, hbb⟩, let ⟨mc, h1, h2⟩ := hlim; ⟨mc, nsK h1, h2⟩⟩
    have e0 : Env0 P w K mg (hidT s₁.heap H) callerA [] s₁ H := ⟨rfl, hM, fun b o e => of_hidT e, Nat.le_of_eq (hidT_size _ _), trivial, fun b hb => absurd (show b ∈ ([] : List Addr) from hb) (by simp), hok, .of_eq hg⟩
    refine codeAny_mono ((F _ hKb (nsK hns)).run callerA [] s₁ H ⟨[.ref a], []⟩ [.ref a] [.ref a] _ _ hr e0 (hbind s₁ (.ref a)) (.cons rfl .nil) (hsp H hO hS)) fun r s' h => ?_
    cases r with
    | error e => exact (hCX H e s' h).elim
    | ok fl =>
      cases fl with
      | next => exact False.elim h
      | brk => exact False.elim h
      | cont => exact False.elim h
      | ret u =>
        obtain ⟨v, H', os, bare, un, hok', r', q⟩ := h
        have q' : v = .bl true := q
        subst q'
        obtain rfl : u = Value.bool true := r'
        refine ⟨rfl, OldK.of_keep fun b o e => ?_, os, bare⟩
        cases q : H b with
        | none => exact un.keep b o e q (by intro z; exact absurd (show b ∈ ([] : List Addr) from z) (by simp)) (by simp)
        | some u =>
          rcases hO b with z | ⟨ob, xs, z⟩
          · rw [q] at z; cases z
          · have z2 := un.frzs b ob _ z
            obtain ⟨e1, _⟩ := hok b _ z
            obtain ⟨e2, _⟩ := hok' b _ z2
            rw [e] at e1; cases e1
            exact e2
  cases hk : K.lookup a with
  | some o =>
    -- the script is one of the module's own objects
    have e := KX a o hk
    rw [ha] at e
    cases e
    refine core (fun _ => none) (fun _ => .inl rfl) (.inr ⟨_, vs.toArray, _, hk, rfl, rfl, rfl, by rw [List.size_toArray, lenV]; exact hl, by simpa using rv⟩) (fun b u z => by have z' : (none : Option HO) = some u := z; cases z') (fun b z => absurd rfl z) fun z => absurd rfl z
  | none =>
    refine core (fun b => if b = a then some (.frz { cls := .type "list", data := .seq vs.toArray } (.lst (ns.map V.int))) else none) (fun b => ?_) (.inl (.inr ⟨{ cls := .type "list", data := .seq vs.toArray }, if_pos rfl⟩)) (fun b u z => ?_) (fun b z => ?_) fun _ => hk
    · by_cases hb : b = a
      · exact .inr ⟨_, _, if_pos hb⟩
      · exact .inl (if_neg hb)
    · by_cases hb : b = a
      · have z' := (if_pos hb).symm.trans z
        cases z'
        subst hb
        exact ⟨ha, by rw [List.length_map]; exact hl, vs, _, rv, ha⟩
      · have z' := (if_neg hb).symm.trans z
        cases z'
    · by_cases hb : b = a
      · exact hb
      · exact absurd (if_neg hb) z
end L2

namespace L2
open PySem PySem.Spec PyProof.Rows

/-- the goal that k_head leaves (case hc), from the law's promise. F gives the function object fd (K's own) once, then the promise over every base -/
theorem walk_of {l : PySem.W.OpenLaw} {n k : Nat} {q : Program} {loose : List Str} {XP : (Str → Option Value) → Heap → Prop} {YP : World → Heap → Prop} {d : DefRec} {K : Params → PySem.W.Frag} {CX : World → CXT} {sp : World → Sp} {x : Str}
    (hn : l.most = some n) (hn2 : n ≤ sizeLine) (hdf : d.params.defaults = []) (hr : Room k callerA)
    (hY : ∀ (w : World) (h : Heap), YP w h → (K w.params).In h)
    (F : ∀ (w : World) (mg : Str → Option Value) (fa : Addr) (h : Heap), (K w.params).In h → h.Ns mainGlobals mg → mg d.name = some (.ref fa) →
      ∃ fd : FuncData, (∀ (s : Shared) (u : Value), BindsTo s fd ⟨[u], []⟩ [(x, u)]) ∧
        ∀ base : Heap, (K w.params).In base → base.Ns mainGlobals mg → FnOk l.prog w (K w.params) mg base (CX w) k fa fd [x] (sp w))
    (hsp : ∀ (w : World) (H : Hp) (a : Addr) (ns : List Int), ns.length ≤ n → Only H → SqL (K w.params) H a (ns.map V.int) → sp w [.ref a] H (fun v _ => v = .bl true) fun _ _ _ => False)
    (hCX : ∀ (w : World) (H : Hp) (s : Shared) (e : Value) (s' : Shared), CX w [] H s (fun _ _ _ => False) e s' → False) :
    PySem.W.WalkO q loose XP YP l.row.toRowW d [] (fun f vs => PySem.call f vs) := by
  refine Att.attach_call hn hdf fun w s₀ s₁ mg mb fa o pm cd doc a vs ns G Y ho hd hcd hmg hobj hints hlen hg => ?_
  have KX := hY w _ Y
  obtain ⟨fd, hb, hF⟩ := F w mg fa _ KX G.T.g hmg
  exact law_call KX G.T.g G.T.b G.T.builtins G.T.nolimit hg hobj hints (Nat.le_trans hlen hn2) hr hF hb (fun H hO hS => hsp w H a ns hlen hO hS) fun H e s' => hCX w H s₁ e s'
end L2

/- THE LAST THEOREM (shape; LID, My.* are yours):
   My.Adr: a structure of the addresses that your layer names (classes, functions); My.Txt K t: a structure (Prop) of the equations over K;
   My.txt_mk : {K} {implicit addresses ..} (e1 : nsIn K mainGlobals "law" = some (some (.ref f))) (e2 : K.lookup f = some ⟨oc, od, .func (fnOf "law" "law" params body scope dV kV doc pm an cdv ct), sl⟩) (e3 : codeIn K cdv "law" = true) .. : ∃ t, My.Txt K t

set_option maxRecDepth 100000 in
set_option maxHeartbeats 0 in
theorem PySem.Challenge.cw_LID_holds : PySem.Challenge.rw_LID.Holds := by
  w_on; o_law; k_head; (case hw => w_witness2)
  k_fill
  refine L2.walk_of (l := PySem.Challenge.rw_LID) (n := 63) (k := 40) (x := "script") (CX := fun w => ..) (sp := fun _ => My.sp_law) rfl (by decide) rfl ⟨rfl, by decide, by decide⟩ (fun w h Y => PySem.W.kIn_of Y) ?F ?S ?C
  case F =>
    intro w mg fa h KX G hmg
    have T : ∃ t, My.Txt (L2.KOf KX) t := by
      dsimp only [L2.KOf]                          -- K must stand as «<heap const> w.params» for k_is
      refine' My.txt_mk ?e1 ?e2 ?e3 ..
      (case e1 => PySem.W.k_is)                    -- in the order: a name -> its address -> its object -> its parts
      (case e2 => PySem.W.k_is)
      ..
    obtain ⟨t, T⟩ := T
    have e0 := hmg.symm.trans (PySem.W.mg_of KX G T.law)
    cases e0                                       -- fa is the law's own address
    exact ⟨_, fun s u => .of_eq rfl, fun base kb nb => My.law_fn T kb nb⟩     -- if «.of_eq rfl» comes too early: refine' ⟨_, ?b, fun base kb nb => My.law_fn T kb nb⟩; exact fun s u => .of_eq rfl
  case S => exact fun w H a ns hl hO hS => ..
  case C => exact ..
(the tactic k_is has no namespace: write k_is) -/

/-! SHORT WORDS over the layer: a def of the text, its body, what a loop and a test want. -/
namespace L2
open PySem PySem.Spec PyProof.Rows

/-! ### the text by places -/
def defArgs (s : Stmt) : Arguments := match s with
  | .FunctionDef _ a _ _ _ _ _ _ _ _ => a
  | _ => { posonlyargs := [], args := [], vararg := none, kwonlyargs := [], kw_defaults := [], kwarg := none, defaults := [] }
def defBody (s : Stmt) : List Stmt := match s with
  | .FunctionDef _ _ b _ _ _ _ _ _ _ => b
  | _ => []
def defScope (s : Stmt) : Scope := match s with
  | .FunctionDef _ _ _ _ _ _ sc _ _ _ => sc
  | _ => { kind := .function, names := [], isGenerator := false, isCoroutine := false }

/-! ### no exception leaves a def -/
abbrev CX0 : CXT := fun _ _ _ _ _ _ => False
abbrev E0 : XK := fun _ _ _ => False
theorem pass0 {X : Cx} : Passes CX0 X E0 := fun _ _ _ _ _ _ _ h => h.elim

/-! ### a def (or method) of the text as it stands behind the top -/
structure Fun (K : PySem.W.Frag) (x qual : Str) (st : Stmt) (f : Addr) (fd : FuncData) : Prop where
  ex : ∃ (oc : Value) (od : Option Addr) (kV doc pm : Value) (an : Option Addr) (cdv ct : Value) (osl : Array (Option Value)),
    fd = PySem.W.fnOf x qual (defArgs st) (defBody st) (defScope st) .none kV doc pm an cdv ct ∧ K.lookup f = some ⟨oc, od, .func fd, osl⟩ ∧ PySem.W.codeIn K cdv qual = true
  kp : PySem.W.keepIn K (.ref f) = true
section
variable {P : Program} {w : World} {K : PySem.W.Frag} {mg : Str → Option Value} {base : Heap}
/-- THE RULE for a def: its body as a term of rules, and the reading of that term -/
theorem Fun.ok {x qual : Str} {st : Stmt} {f : Addr} {fd : FuncData} {N ps : List Str} {k : Nat} {sp : Sp} (F : Fun K x qual st f fd) (S : FnScope N ps (defScope st)) (len : ∀ vs H Q E, sp vs H Q E → vs.length = ps.length)
    (hbody : ∀ (cdv : Value) (A : Around) (outer : List Env) (s : Shared) (H : Hp) (vs : List V) (Q : VK) (E : XK), Room k (A.deeper (envOfC qual (defScope st) s.heap.objs.size f cdv)) → sp vs H Q E →
      ∃ t, PSs (cxOf CX0 P w K mg base N qual (defScope st) f cdv A outer s H E).nox (defBody st) t ∧ t { nx := fun _ H' => Q .non H', rt := Q } (start N vs) H) : FnOk P w K mg base CX0 (k + 1) f fd ps sp := by
  obtain ⟨oc, od, kV, doc, pm, an, cdv, ct, osl, rfl, lk, hcd⟩ := F.ex
  refine fn_of lk hcd S len fun A outer s H vs Q E hr hsp => ?_
  obtain ⟨t, h, q⟩ := hbody cdv A outer s H vs Q E hr hsp
  exact ⟨t, h.nox, q⟩
/-- how its arguments bind (no defaults): h is «fun _ _ _ _ _ _ us hl => match us, hl with | [_, _], _ => rfl», one _ a parameter -/
theorem Fun.binds {x qual : Str} {st : Stmt} {f : Addr} {fd : FuncData} {ps : List Str} (F : Fun K x qual st f fd)
    (h : ∀ (kV doc pm : Value) (an : Option Addr) (cdv ct : Value) (us : List Value), us.length = ps.length → bindArgs (PySem.W.fnOf x qual (defArgs st) (defBody st) (defScope st) .none kV doc pm an cdv ct) ⟨us, []⟩ = pure (ps.zip us)) : Binds K fd ps [] := by
  obtain ⟨oc, od, kV, doc, pm, an, cdv, ct, osl, rfl, lk, hcd⟩ := F.ex
  exact .all (h kV doc pm an cdv ct)
theorem fun_mk {x qual : Str} {st : Stmt} {f : Addr} {oc : Value} {od an : Option Addr} {osl : Array (Option Value)} {kV doc pm cdv ct : Value} (l : K.lookup f = some ⟨oc, od, .func (PySem.W.fnOf x qual (defArgs st) (defBody st) (defScope st) .none kV doc pm an cdv ct), osl⟩)
    (c : PySem.W.codeIn K cdv qual = true) (k : PySem.W.keepIn K (.ref f) = true) : Fun K x qual st f (PySem.W.fnOf x qual (defArgs st) (defBody st) (defScope st) .none kV doc pm an cdv ct) := ⟨⟨oc, od, kV, doc, pm, an, cdv, ct, osl, rfl, l, c⟩, k⟩
end
/-! ### expressions in short: the name that stands in the i-th slot -/
section
variable {X : Cx}
theorem pv (i : Nat) {x : Str} {pos : Pos} (hN : X.N[i]? = some x := by rfl) (hv : Vis X.env.scope x := by first | exact Or.inl rfl | exact Or.inr (Or.inl rfl) | exact Or.inr (Or.inr rfl)) (hd : (x == ("__debug__" : Str)) = false := by decide)
    (hcd : (x == ("__classdict__" : Str)) = false := by decide) : PE X (.Name x pos) (tVar i) := pe_var hN hv hd hcd
end

/-! ### tests -/
theorem iteF {A B : Prop} (h : B) : if false = true then A else B := by
  rw [if_neg Bool.false_ne_true]
  exact h
theorem iteT {A B : Prop} (h : A) : if true = true then A else B := by
  rw [if_pos rfl]
  exact h
theorem ite2 {c A B : Prop} [Decidable c] (h1 : c → A) (h2 : ¬ c → B) : if c then A else B := by
  by_cases h : c
  · rw [if_pos h]
    exact h1 h
  · rw [if_neg h]
    exact h2 h
theorem iteNS {c A B : Prop} [Decidable c] (hc : c) (h : B) : if (!decide c) = true then A else B := by
  rw [decide_eq_true hc]
  exact iteF h

/-! ### heaps -/
/-- all that was tracked is as it was -/
def Same (H H' : Hp) : Prop := ∀ b o, H b = some o → H' b = some o
theorem Same.refl (H : Hp) : Same H H := fun _ _ h => h
theorem Same.trans {H H1 H2 : Hp} (a : Same H H1) (b : Same H1 H2) : Same H H2 := fun c o h => b c o (a c o h)
theorem Same.free {H H' : Hp} (e : Same H H') {l : Addr} (h : H' l = Option.none) : H l = Option.none := by
  cases q : H l with
  | none => rfl
  | some o =>
    rw [e l o q] at h
    cases h
theorem Same.seq {K : PySem.W.Frag} {H H' : Hp} {a : Addr} {xs : List V} (e : Same H H') (h : SqL K H a xs) : SqL K H' a xs := by
  rcases h with (h | ⟨o, h⟩) | h
  · exact .inl (.inl (e _ _ h))
  · exact .inl (.inr ⟨o, e _ _ h⟩)
  · exact .inr h

end L2

set_option maxHeartbeats 4000000
namespace Bk
open PySem PySem.W PySem.Spec PySem.Calls PyProof.Rows Builtin Builtin.ObjectAttr Builtin.Getset_descriptor
/-- what is asked of an own exception class, all of it read off the text -/
structure ExcK (K : Frag) (C : Addr) : Prop where
  cls : (clsIn K C).isSome = true
  ga : findIn K (.ref C) "__getattribute__" = some (some (.builtin "BaseException.__getattribute__"))
  gt : findIn K (.ref C) "__getattr__" = some none
  at_ : findIn K (.ref C) "__class__" = some (some (.builtin "object.__class__"))
  get : specialIn K (.builtin "object.__class__") "__get__" = some (some (.builtin "getset_descriptor.__get__"))
  tk : takesIn K (.builtin "object.__class__") = some true
  obj : mroIn K C (.type "object") = some true
  exc : mroIn K C (.type "BaseException") = some true
section
variable {prog : Program} {w : World} {A : Around} {E : Value → Shared → Prop} {s : Shared} {K : Frag} {x C : Addr}
end
end Bk

/-! ## EXCEPTIONS over the hand layer: a def that raises, a try that catches -/
namespace L2
open PySem PySem.Spec PyProof.Rows

/-- behind an exception: B is what surely stayed, h the heap; s, H ahead of it; the frames l may have other slots -/
structure Aft (P : Program) (w : World) (l : List Env) (H H' : Hp) (s : Shared) (B h : Heap) : Prop where
  stays : B.StaysIn h
  hokB : HOk P w H' B
  kept : ∀ b o, s.heap.get? b = some o → H b = none → b ∉ frs l → B.get? b = some o
  thr : ∀ b o, s.heap.get? b = some o → b ∉ frs l → ∃ o', B.get? b = some o'
  slot : ∀ b o, s.heap.get? b = some o → b ∈ frs l → ∃ sl, h.get? b = some { o with slots := sl }
  free : ∀ b o, s.heap.get? b = some o → H b = none → H' b = none
  tups : ∀ b xs, H b = some (.tup xs) → H' b = some (.tup xs)
  frzs : ∀ b o u, H b = some (.frz o u) → H' b = some (.frz o u)
  tbls : ∀ b ps, H b = some (.tbl ps) → ∃ more, H' b = some (.tbl (ps ++ more))
section
variable {P : Program} {w : World} {l : List Env} {H H' : Hp} {s : Shared} {B h h' : Heap}
/-- a further step of the exception's machinery -/
theorem Aft.next (a : Aft P w l H H' s B h) (k : B.StaysIn h') (hl : h.FunFrames B l) (u : h.UpToSlots h') : Aft P w l H H' s B h' where
  stays := k
  hokB := a.hokB
  kept := a.kept
  thr := a.thr
  slot := fun b o q hb => by
    obtain ⟨sl, e⟩ := a.slot b o q hb
    obtain ⟨_, o', e', nf⟩ := hl.mem hb
    rw [e] at e'
    cases e'
    obtain ⟨sl', z⟩ := u b _ e nf
    exact ⟨sl', z⟩
  free := a.free
  tups := a.tups
  frzs := a.frzs
  tbls := a.tbls
end

/-- an exception has left the code that ran from s, H: its object, its class; what it wrote (H') stands -/
structure Flew (P : Program) (w : World) (l : List Env) (H H' : Hp) (s s' : Shared) (e : Addr) (cls : Value) : Prop where
  os : s'.os = s.os
  bare : AllBare s'.gens
  fly : ∃ B a0, Heap.FlyingW B l e cls a0 s'.heap ∧ Aft P w l H H' s B s'.heap
  new : s.heap.get? e = none
  untr : H' e = none
/-- how an exception of an own class lies behind a call -/
def CXb (P : Program) (w : World) : CXT := fun outer H s E x s' => ∃ e C H', x = .ref e ∧ Flew P w outer H H' s s' e (.ref C) ∧ E (.ref C) none H'

theorem ObjOk.some {P : Program} {w : World} {H : Hp} {h : Heap} {a : Addr} {o : HO} (x : ObjOk P w H h a o) : ∃ u, h.get? a = some u := by
  cases o with
  | lst xs => obtain ⟨_, _, _, _, e⟩ := x; exact ⟨_, e⟩
  | tup xs => obtain ⟨_, _, _, ob, e, _⟩ := x; exact ⟨_, e⟩
  | dK kvs => obtain ⟨_, _, _, _, o, _, _, e, _⟩ := x; exact ⟨_, e⟩
  | dT kvs => obtain ⟨_, _, _, _, o, _, _, e, _⟩ := x; exact ⟨_, e⟩
  | set S n => obtain ⟨o, _, _, _, e, _⟩ := x; exact ⟨_, e⟩
  | ins C dx fs => obtain ⟨_, _, _, e, _⟩ := x; exact ⟨_, e⟩
  | own y => exact x
  | xd fs => obtain ⟨_, ⟨_, _, _, e, _⟩, _⟩ := x; exact ⟨_, e⟩
  | rng lo hi => obtain ⟨_, _, _, e⟩ := x; exact ⟨_, e⟩
  | frz ob u => obtain ⟨e, _⟩ := x; exact ⟨_, e⟩
  | tbl ps => exact ⟨_, x⟩
  | met f y => exact ⟨_, x⟩
  | ext φ => obtain ⟨_, e, _⟩ := x; exact e

section
variable {P : Program} {w : World} {K : PySem.W.Frag} {mg : Str → Option Value} {base : Heap} {N : List Str} {qual : Str} {scope : Scope} {f : Addr} {cd : Value} {A : Around} {outer : List Env} {s : Shared} {H : Hp} {E : XK}

/-- a raise in a def's body, in this context, reaches the wish E -/
def Raises (X : Cx) (E : XK) : Prop := ∀ (pins : List (Addr × Obj)) (σ : St) (H : Hp) (s : Shared) (e C : Addr) (args : List Value) (h' : Heap), Inv X pins σ H s → Heap.MadeExcOf s.heap h' e (.ref C) args → E (.ref C) none H → X.xe (.ref e) { s with heap := h' }

theorem mem_frs {env : Env} {l : List Env} {b : Addr} (h : b ∈ frs (env :: l)) : env.frame = some b ∨ b ∈ frs l := by
  obtain ⟨v, hv, hf⟩ := List.mem_filterMap.mp h
  rcases List.mem_cons.mp hv with rfl | hv
  · exact .inl hf
  · exact .inr (List.mem_filterMap.mpr ⟨v, hv, hf⟩)
theorem frs_mem {env : Env} {l : List Env} {b : Addr} (h : b ∈ frs l) : b ∈ frs (env :: l) := by
  obtain ⟨v, hv, hf⟩ := List.mem_filterMap.mp h
  exact List.mem_filterMap.mpr ⟨v, List.mem_cons_of_mem _ hv, hf⟩

theorem raises_fn : Raises (cxOf (CXb P w) P w K mg base N qual scope f cd A outer s H E) E := by
  intro pins σ H1 s1 e C args h' I m q
  have stk : (cxOf (CXb P w) P w K mg base N qual scope f cd A outer s H E).stack = envOfC qual scope s.heap.objs.size f cd :: outer := rfl
  have st := I.stack
  rw [stk] at st
  have stF := I.stkFree
  rw [stk] at stF
  have old : ∀ b o, s.heap.get? b = some o → b ∉ frs outer → b ∉ frs (envOfC qual scope s.heap.objs.size f cd :: outer) := fun b o e1 n hm => by
    rcases mem_frs hm with z | z
    · have z' : some s.heap.objs.size = some b := z
      cases z'
      exact absurd (Heap.lt_size e1) (Nat.lt_irrefl _)
    · exact n z
  have hin : ∀ env ∈ (envOfC qual scope s.heap.objs.size f cd :: outer), ∀ a, env.frame = some a → a ∈ frs (envOfC qual scope s.heap.objs.size f cd :: outer) := fun env he a ha => List.mem_filterMap.mpr ⟨env, he, ha⟩
  refine wpAny_leaves_madeW (base := PySem.W.hideAll s1.heap (frs (envOfC qual scope s.heap.objs.size f cd :: outer))) (h := s1.heap) I.ok.frames rfl (fun b o z => PySem.W.of_hideAll _ z) (PySem.W.funFrames_hide st hin) m fun h3 t fl _ _ up => ?_
  have k3 : (PySem.W.hideAll s1.heap (frs (envOfC qual scope s.heap.objs.size f cd :: outer))).StaysIn h3 := fl.1
  refine ⟨e, C, H1, rfl, ⟨I.os, I.bare, ⟨_, _, fl, ⟨k3, fun a u z => ?_, fun b o e1 n nf => ?_, fun b o e1 nf => ?_, fun b o e1 hb => ?_, fun b o e1 n => I.base.free b o e1 n (fun z => nomatch z), I.base.tups, I.base.frzs, I.base.tbls⟩⟩, ?_, ?_⟩, q⟩
  · refine (I.hok a u z).stay (fun b v hb e2 => PySem.W.hideAll_get _ e2 fun hm => ?_) (fun _ z => z) fun _ _ z => z
    have hn := stF b hm
    rcases hb with rfl | hb
    · rw [hn] at z; cases z
    · rw [hn] at hb; cases hb
  · exact PySem.W.hideAll_get _ (I.base.keep b o e1 n nf (fun z => nomatch z)) (old b o e1 nf)
  · obtain ⟨o', e2⟩ := I.base.there b o e1 (fun z => nomatch z)
    exact ⟨o', PySem.W.hideAll_get _ e2 (old b o e1 nf)⟩
  · obtain ⟨sl, e2⟩ := I.base.slot b o e1 (I.ok.frf b hb) hb (fun z => nomatch z)
    obtain ⟨_, ob, e3, nf⟩ := st.mem (frs_mem hb)
    rw [e2] at e3
    cases e3
    obtain ⟨sl', e4⟩ := up b _ (m.keeps b _ e2) nf
    exact ⟨sl', e4⟩
  · cases z : s.heap.get? e with
    | none => rfl
    | some o =>
      obtain ⟨o', e2⟩ := I.base.there e o z (fun z => nomatch z)
      rw [m.new] at e2; cases e2
  · cases z : H1 e with
    | none => rfl
    | some o =>
      obtain ⟨u, e2⟩ := (I.hok e o z).some
      rw [m.new] at e2; cases e2

/-- an exception of a callee goes on through a def's body -/
theorem passes_fn : Passes (CXb P w) (cxOf (CXb P w) P w K mg base N qual scope f cd A outer s H E) E := by
  intro pins σ H1 s1 x s2 I h
  obtain ⟨e, C, H2, rfl, F, q⟩ := h
  obtain ⟨B, a0, fl, a⟩ := F.fly
  have stk : (cxOf (CXb P w) P w K mg base N qual scope f cd A outer s H E).stack = envOfC qual scope s.heap.objs.size f cd :: outer := rfl
  rw [stk] at fl a
  have old : ∀ b o, s.heap.get? b = some o → b ∉ frs outer → b ∉ frs (envOfC qual scope s.heap.objs.size f cd :: outer) := fun b o e1 n hm => by
    rcases mem_frs hm with z | z
    · have z' : some s.heap.objs.size = some b := z
      cases z'
      exact absurd (Heap.lt_size e1) (Nat.lt_irrefl _)
    · exact n z
  refine wpAny_leaves_onW (base := B) I.ok.frames rfl fl fun h3 fl3 up => ?_
  have a3 := a.next fl3.1 fl.2.2.1 up
  refine ⟨e, C, H2, rfl, ⟨F.os.trans I.os, F.bare, ⟨B, a0, fl3, ⟨fl3.1, a.hokB, fun b o e1 n nf => ?_, fun b o e1 nf => ?_, fun b o e1 hb => ?_, fun b o e1 n => ?_, fun b xs z => a.tups _ _ (I.base.tups b xs z), fun b o u z => a.frzs _ _ _ (I.base.frzs b o u z), fun b ps z => ?_⟩⟩, ?_, F.untr⟩, q⟩
  · exact a.kept b o (I.base.keep b o e1 n nf (fun z => nomatch z)) (I.base.free b o e1 n (fun z => nomatch z)) (old b o e1 nf)
  · obtain ⟨o', e2⟩ := I.base.there b o e1 (fun z => nomatch z)
    exact a.thr b o' e2 (old b o e1 nf)
  · obtain ⟨sl, e2⟩ := I.base.slot b o e1 (I.ok.frf b hb) hb (fun z => nomatch z)
    obtain ⟨sl', e3⟩ := a3.slot b _ e2 (frs_mem hb)
    exact ⟨sl', e3⟩
  · obtain ⟨o', e2⟩ := I.base.there b o e1 (fun z => nomatch z)
    exact a.free b o' e2 (I.base.free b o e1 n (fun z => nomatch z))
  · obtain ⟨m1, e1⟩ := I.base.tbls b ps z
    obtain ⟨m2, e2⟩ := a.tbls b _ e1
    exact ⟨m1 ++ m2, by rw [e2, Array.append_assoc]⟩
  · cases z : s.heap.get? e with
    | none => rfl
    | some o =>
      obtain ⟨o', e2⟩ := I.base.there e o z (fun z => nomatch z)
      rw [F.new] at e2; cases e2
end

/-- a def's body with raises in it -/
theorem Fun.okx {P : Program} {w : World} {K : PySem.W.Frag} {mg : Str → Option Value} {base : Heap} {x qual : Str} {st : Stmt} {f : Addr} {fd : FuncData} {N ps : List Str} {k : Nat} {sp : Sp} (F : Fun K x qual st f fd) (S : FnScope N ps (defScope st))
    (len : ∀ vs H Q E, sp vs H Q E → vs.length = ps.length)
    (hbody : ∀ (cdv : Value) (A : Around) (outer : List Env) (s : Shared) (H : Hp) (vs : List V) (Q : VK) (E : XK), Room k (A.deeper (envOfC qual (defScope st) s.heap.objs.size f cdv)) → sp vs H Q E →
      ∃ t, PSs (cxOf (CXb P w) P w K mg base N qual (defScope st) f cdv A outer s H E) (defBody st) t ∧ t { nx := fun _ H' => Q .non H', rt := Q } (start N vs) H) : FnOk P w K mg base (CXb P w) (k + 1) f fd ps sp := by
  obtain ⟨oc, od, kV, doc, pm, an, cdv, ct, osl, rfl, lk, hcd⟩ := F.ex
  exact fn_of lk hcd S len fun A outer s H vs Q E hr hsp => hbody cdv A outer s H vs Q E hr hsp

/-! ### raise C(..) -/
/-- the class C is an own exception class under ValueError, by one or more own classes -/
def tRaise (E : XK) (C : Addr) (t : TA) : TS := fun _ σ H => t σ H fun us H1 => us.length ≤ sizeLine ∧ E (.ref C) none H1
theorem exc_there {K : PySem.W.Frag} {C : Addr} {bmB : List Value} {newId : String} (q : PySem.W.excIn K C bmB newId = true) :
    ∃ bm N nm qn bs hd sn sub ab col dd k0 k1 k2 k3 k5, K.lookup C = some (excClassObj nm qn C N bs bm hd sn sub ab col dd k0 k1 k2 k3 k5 newId) ∧ PySem.W.tailIn K bmB bm = true ∧ PySem.W.nsOkIn K N = true ∧ PySem.W.nsIn K N "__init__" = some none := by
  unfold PySem.W.excIn at q
  split at q
  · rename_i dd cd sl ho
    split at q
    · rename_i C' bm k0 k1 k2 k3 n k5 hm hs
      simp only [Bool.and_eq_true, beq_iff_eq, Bool.not_eq_true'] at q
      obtain ⟨⟨⟨⟨⟨e1, e2⟩, e3⟩, e4⟩, e5⟩, e6⟩ := q
      subst e1 e2
      obtain ⟨nm, bs, mro, ns, qn, hd, sn, sub, ab, col, del⟩ := cd
      dsimp only at hm e3 e5 e6
      subst hm e3
      have es : sl = #[k0, k1, k2, k3, some (.builtin n), k5] := by
        rw [← Array.toList_inj, hs]
      subst es
      exact ⟨bm, ns, nm, qn, bs, hd, sn, sub, ab, col, dd, k0, k1, k2, k3, k5, ho, e4, e5, e6⟩
    · cases q
  · cases q
section
variable {X : Cx} {x : Str} {C : Addr} {np cpos pos : Pos} {e : Expr} {es : List Expr} {t : TA} {E : XK}
theorem ps_raise (R : Raises X E) (hc : X.calm = true) (hg : Gl X x) (hm : X.mg x = some (.ref C)) (q : PySem.W.excIn X.K C [.type "ValueError", .type "Exception", .type "BaseException", .type "object"] "ValueError.__new__" = true) (ha : PA X (e :: es) t)
    (hdb : (x == ("__debug__" : Str)) = false := by decide) (hpl : (backTo cpos (starEach (e :: es) X.env)).any (·.1) = false := by rfl)
    (he : starEach (e :: es) X.env = (false, eval e X.env) :: starEach es X.env := by rfl) :
    PS X (.Raise (some (.Call (.Name x np) (e :: es) [] cpos)) none pos) (tRaise E C t) := by
  intro pins s σ H D I h
  obtain ⟨bm, N, nm, qn, bs, hd, sn, sub, ab, col, dd, k0, k1, k2, k3, k5, lk, e4, e5, e6⟩ := exc_there q
  have T0 := PySem.W.tail_of_in I.kIn e4
  have hA := ha cpos pins s σ H _ I h
  rw [he] at hA
  refine wpAny_Raise_call_subU (C := C) (nm := nm) (q := qn) (N := N) (bs := bs) (bm := bm) (hdct := hd) (sn := sn) (sub := sub) (ab := ab) (col := col) (dd := dd) (k0 := k0) (k1 := k1) (k2 := k2) (k3 := k3) (k5 := k5) (mN := s.heap.nsMap N)
    PySem.F.excBase_ValueError (by decide +kernel) PySem.F.excBase_ValueError (T0.hasType (by decide +kernel)) (I.ok.hd hc) hpl (PySem.W.nsMap_none_of_in I.kIn e5 e6) (ld_glob I hg hm ⟨rfl, ?_⟩ hdb)
  rw [he]
  refine Calls.evalArgs_plain (thn hA fun us s2 ⟨vs, H2, I2, r2, z, q2⟩ => ?_)
  refine ⟨rfl, by rw [← r2.length]; exact z, I2.kIn _ _ lk, ?_, PySem.W.tail_of_in I2.kIn e4, fun h' ea m => R pins σ H2 s2 ea C us h' I2 m q2⟩
  have nn : s2.heap.Ns N (s2.heap.nsMap N) := .of_isNs (PySem.W.isNs_of_in I2.kIn e5)
  have eq : s2.heap.nsMap N = s.heap.nsMap N := by
    unfold PySem.W.nsOkIn at e5
    split at e5
    · rename_i lkN
      unfold Heap.nsMap
      rw [I2.kIn _ _ lkN, I.kIn _ _ lkN]
    · cases e5
  rw [← eq]
  exact nn
end
end L2

/-! ### what may raise, and try -/
namespace L2
open PySem PySem.Spec PyProof.Rows

section
variable {X : Cx} {st : Stmt} {rest : List Stmt} {t u : TSx} {e : Expr} {te : TEx} {pos : Pos}
end

section
variable {X : Cx} {body suite : List Stmt} {b₀ : Stmt} {t : TSx} {ts : Addr → Obj → TS} {c n : Str} {c₀ : Value} {i : Nat} {np hpos pos : Pos}
end
end L2

/-! ## more rules over the hand layer: isinstance, == and != of lists and tuples of flat things -/
namespace L2
open PySem PySem.Spec PyProof.Rows
section
variable {X : Cx}
/-! ### isinstance -/
def cVal : V → Option Value
  | .ref a => some (.ref a)
  | .ty n => some (.type n)
  | _ => none
theorem cVal_rel {c : V} {k u : Value} (e : cVal c = some k) (r : RelV c u) : u = k := by
  cases c with
  | ref a => cases e; exact r
  | ty n => cases e; exact r
  | _ => cases e
theorem call_isinst : CallR X (.builtin "isinstance") (fun xs H Q => ∃ x c t k b, xs = [x, c] ∧ TyOf X.K H x t ∧ cVal c = some k ∧ PySem.W.kitOne X.K t k = some b ∧ Q (.bl b) H) := by
  intro pins s σ H xs us Q I r h
  obtain ⟨x, c, t, k, b, rfl, ty, ck, e, q⟩ := h
  obtain ⟨u, w, rfl, ru, rw'⟩ := vals2 r
  obtain rfl := cVal_rel ck rw'
  exact isinst_ok I ru ty e fun tk => ⟨.bl b, H, I.tok tk, rfl, q⟩
end
end L2

/-! ## a def of the text in one hand: where it lies, how it binds -/
namespace L2
open PySem PySem.Spec PyProof.Rows
structure Dv (K : PySem.W.Frag) (mg : Str → Option Value) (x : Str) (st : Stmt) (ps : List Str) where
  f : Addr
  fd : FuncData
  F : Fun K x x st f fd
  b : Binds K fd ps []
  m : mg x = some (.ref f)
section
variable {X : Cx} {x : Str} {st : Stmt} {ps : List Str} {CX : CXT} {k : Nat} {sp : Sp} {E : XK} {p pos : Pos} {e : Expr} {es : List Expr} {t : TA}
end
/-- the law's reader of a cell -/
def cell (ns : List Int) (k : Int) : Int := if k < (ns.length : Int) then ns.getD k.toNat 0 else 0
theorem at_cell {ns : List Int} {k : Int} (h0 : 0 ≤ k) (h : k < (ns.length : Int)) : atI (ns.map V.int) k = some (V.int (ns.getD k.toNat 0)) := by
  have hk : k.toNat < ns.length := by omega
  have e : k = ((k.toNat : Nat) : Int) := by omega
  rw [e]
  refine atI_nat ?_
  rw [List.getElem?_map, Int.toNat_natCast]
  simp [List.getD_eq_getElem?_getD, hk]
end L2

/-! ## list comprehensions over the hand layer -/
namespace L2
open PySem PySem.Spec PyProof.Rows
/-! ### the cells that a block takes over -/
def closStep (env : Env) (p : Str × NameKind) (cs : List (Str × Addr)) : List (Str × Addr) := if (p.2 == NameKind.free) = true then (p.1, (env.cells.lookup p.1).getD 0) :: cs else cs
theorem forIn_fold {α β : Type} {f : α → β → Sem (ForInStep β)} {g : α → β → β} : ∀ {l : List α} (c : β), (∀ x ∈ l, ∀ c, f x c = pure (.yield (g x c))) → forIn l c f = pure (l.foldl (fun c x => g x c) c)
  | [], _, _ => rfl
  | x :: l, c, h => by
    rw [List.forIn_cons, h x List.mem_cons_self, pure_bind]
    exact forIn_fold _ fun y hy => h y (List.mem_cons_of_mem _ hy)
theorem clos_fold {env : Env} : ∀ {ns : List (Str × NameKind)} {cs : List (Str × Addr)}, (∀ p ∈ ns, p.2 = .free → ∃ c, env.cells.lookup p.1 = some c) → (∀ y c, cs.lookup y = some c → env.cells.lookup y = some c) →
    (∀ y c, (ns.foldl (fun c x => closStep env x c) cs).lookup y = some c → env.cells.lookup y = some c) ∧ ∀ y, ((y, NameKind.free) ∈ ns ∨ ∃ c, cs.lookup y = some c) → ∃ c, (ns.foldl (fun c x => closStep env x c) cs).lookup y = some c
  | [], cs, _, h => ⟨h, fun y z => z.elim (fun z => nomatch z) id⟩
  | p :: ns, cs, hf, h => by
    have step : ∀ y c, (closStep env p cs).lookup y = some c → env.cells.lookup y = some c := fun y c e => by
      unfold closStep at e
      by_cases hp : (p.2 == NameKind.free) = true
      · rw [if_pos hp, List.lookup_cons] at e
        obtain ⟨c', ec⟩ := hf p List.mem_cons_self (by simpa using hp)
        split at e
        · rename_i q
          have q' : y = p.1 := by simpa using q
          rw [ec] at e
          have e' : c' = c := Option.some.inj e
          rw [q', ec, e']
        · exact h y c e
      · rw [if_neg hp] at e
        exact h y c e
    obtain ⟨h1, h2⟩ := clos_fold (ns := ns) (cs := closStep env p cs) (fun q hq => hf q (List.mem_cons_of_mem _ hq)) step
    refine ⟨h1, fun y z => h2 y ?_⟩
    rcases z with z | ⟨c, z⟩
    · rcases List.mem_cons.mp z with z | z
      · refine .inr ?_
        unfold closStep
        rw [← z]
        simp [List.lookup_cons]
      · exact .inl z
    · refine .inr ?_
      unfold closStep
      by_cases hp : (p.2 == NameKind.free) = true
      · rw [if_pos hp, List.lookup_cons]
        split
        · exact ⟨_, rfl⟩
        · exact ⟨c, z⟩
      · rw [if_neg hp]; exact ⟨c, z⟩
theorem closure_of {scope : Scope} {env : Env} (h : ∀ p ∈ scope.names, p.2 = .free → ∃ c, env.cells.lookup p.1 = some c) :
    ∃ cl, closureFor scope env = pure cl ∧ (∀ y c, cl.lookup y = some c → env.cells.lookup y = some c) ∧ ∀ y, (y, NameKind.free) ∈ scope.names → ∃ c, cl.lookup y = some c := by
  obtain ⟨h1, h2⟩ := clos_fold (cs := []) h (fun y c e => by simp at e)
  refine ⟨_, ?_, h1, fun y hy => h2 y (.inl hy)⟩
  simp only [closureFor]
  rw [forIn_fold (g := closStep env) [] (fun x hx c => ?_)]
  · rfl
  · obtain ⟨n, k⟩ := x
    unfold closStep
    by_cases hk : (k == NameKind.free) = true
    · obtain ⟨c', ec⟩ := h (n, k) hx (by simpa using hk)
      simp only [hk, if_true, cellOf, ec, pure_bind, Option.getD_some]
    · simp only [hk, Bool.false_eq_true, if_false]

/-- the context of a comprehension's block: its own names first, then those around it -/
def Cx.blk (X : Cx) (ts M : List Str) (scope : Scope) (cl : List (Str × Addr)) (C : Addr) (fp : List Addr) (s : Shared) (H : Hp) : Cx where
  prog := X.prog
  w := X.w
  K := X.K
  mg := X.mg
  base := X.base
  A := X.A
  N := ts ++ M
  s₀ := s
  H₀ := H
  env := compEnvC scope cl C X.env
  outer := X.stack
  stack := X.stack
  ex := fp
  fn := fun _ => false
  calm := X.calm
  pn := X.pn
  xe := fun _ _ => False

theorem relabel_lookup {env : Env} : ∀ {names : List (Str × NameKind)} {x : Str} {k : NameKind}, (names.map fun (n, k) => if (k == NameKind.free && env.scope.kind == .function && env.kindOf n == some .cell) then (n, NameKind.cell) else (n, k)).lookup x = some k →
    (names.lookup x = some k) ∨ (k = .cell ∧ names.lookup x = some .free)
  | [], _, _, h => by simp at h
  | (n, k0) :: r, x, k, h => by
    have ih := @relabel_lookup env r x k
    rw [List.map_cons] at h
    by_cases hc : (k0 == NameKind.free && env.scope.kind == .function && env.kindOf n == some .cell) = true
    · simp only [hc, if_true, List.lookup_cons] at h ⊢
      cases hx : x == n with
      | true =>
        rw [hx] at h
        have e : NameKind.cell = k := Option.some.inj h
        simp only [Bool.and_eq_true, beq_iff_eq] at hc
        exact .inr ⟨e.symm, by rw [hc.1.1]⟩
      | false =>
        rw [hx] at h
        exact ih h
    · simp only [hc, Bool.false_eq_true, if_false, List.lookup_cons] at h ⊢
      cases hx : x == n with
      | true => rw [hx] at h; exact .inl h
      | false => rw [hx] at h; exact ih h

/-- what is asked of a block's names: none is a cell of its own, the free ones are cells around it, the own ones are not names around it -/
structure BlkOk (X : Cx) (ts M : List Str) (scope : Scope) : Prop where
  kind : scope.kind = .function
  cell : ∀ y ∈ scope.names, y.2 ≠ .cell
  loc : ∀ y ∈ scope.names, y.2 = .local → scope.names.lookup y.1 = some .local
  free : ∀ p ∈ scope.names, p.2 = .free → X.env.kindOf p.1 = some .cell ∨ X.env.kindOf p.1 = some .free
  len : M.length = X.N.length
  apart : ∀ (i : Nat) (y : Str), M[i]? = some y → scope.names.lookup y = none ∨ (X.N[i]? = some y ∧ scope.names.lookup y ≠ some .local)
section
variable {X : Cx} {ts M : List Str} {scope : Scope} {cl : List (Str × Addr)} {C : Addr} {fp : List Addr} {pins : List (Addr × Obj)} {σ : St} {H : Hp} {s s1 : Shared}
theorem lookup_mem {α : Type} {l : List (Str × α)} {x : Str} {a : α} (h : l.lookup x = some a) : (x, a) ∈ l := PySem.mem_of_lookup h
/-- the block begins: s is the state behind the iterator, s1 the one with the block's own dict at C -/
theorem Inv.blk (b : BlkOk X ts M scope) (I : Inv X pins σ H s) (h1 : ∀ y c, cl.lookup y = some c → X.env.cells.lookup y = some c) (h2 : ∀ y, (y, NameKind.free) ∈ scope.names → ∃ c, cl.lookup y = some c) (hf : ∀ b ∈ fp, FpOk X pins H b)
    (hlt : ∀ b ∈ fp, b < s.heap.objs.size) (hC : s.heap.objs.size ≤ C) {h' : Heap} {t : Nat} (k : ∀ b o, s.heap.get? b = some o → h'.get? b = some o) {m : Str → Option Value} (hn : h'.Ns C m) :
    Inv (X.blk ts M scope cl C fp s H) pins (List.replicate ts.length none ++ σ) H { s with heap := h', toks := t } := by
  have sub : ∀ a ∈ frs X.stack, a = X.env.locals ∨ a ∈ X.fs := fun a ha => List.mem_cons.mp (I.stkSub a ha)
  have hfree : ∀ y, scope.names.lookup y = some .free → X.env.kindOf y = some .cell ∨ X.env.kindOf y = some .free := fun y e => b.free (y, .free) (lookup_mem e) rfl
  have hk : ∀ {y : Str} {kd : NameKind}, (compEnvC scope cl C X.env).kindOf y = some kd → scope.names.lookup y = some kd ∨ (kd = .cell ∧ scope.names.lookup y = some .free) := fun e => relabel_lookup e
  refine ⟨⟨I.ok.mod, b.kind, I.ok.glob, I.ok.blt, hC, fun x y c e1 e2 => I.ok.inj x y c (h1 x c e1) (h1 y c e2), fun x hx => ?_, (fun x c z => absurd (show false = true from z) Bool.false_ne_true), I.ok.hd, I.ok.frames, .inl rfl, fun a ha => ⟨?_, fun x c e => (hf a ha).2.2.2.2.1 x c (h1 x c e)⟩,
    fun a o e => I.bs a o e, Nat.le_trans I.ok.bsz I.sz, fun a o e ha => ?_, fun a ha z => ?_, I.stack, I.stkFree⟩, rfl, I.bare, Un.kept k, ⟨m, hn, fun i y v e1 e2 e3 => ?_⟩, fun x c e => ?_, I.hok.fresh hC, fun x c e => I.freeC x c (h1 x c e), fun p hp => ?_, I.hok.kept k, ?_⟩
  · rcases hx with hx | hx
    · rcases hk hx with z | ⟨_, z⟩
      · exact absurd rfl (b.cell (x, .cell) (lookup_mem z))
      · exact h2 x (lookup_mem z)
    · rcases hk hx with z | ⟨z, _⟩
      · exact h2 x (lookup_mem z)
      · cases z
  · exact Nat.ne_of_lt (Nat.lt_of_lt_of_le (hlt a ha) hC)
  · rcases (hf a ha).2.2.2.1 with z | z
    · exact I.ok.noex a o e z
    · exact absurd (Nat.lt_of_lt_of_le (Nat.lt_of_lt_of_le (Heap.lt_size e) I.ok.bsz) z) (Nat.lt_irrefl _)
  · rcases sub a z with z | z
    · exact (hf a ha).2.1 z
    · exact (hf a ha).2.2.1 z
  · have hi : ts.length ≤ i := by
      by_cases q : ts.length ≤ i
      · exact q
      · rw [List.getElem?_append_left (by simpa using q), List.getElem?_replicate] at e2
        split at e2 <;> cases e2
    have e1M : M[i - ts.length]? = some y := by
      have z : (ts ++ M)[i]? = some y := e1
      rwa [List.getElem?_append_right hi] at z
    have e2' : σ[i - ts.length]? = some (some v) := by
      rw [List.getElem?_append_right (by simpa using hi), List.length_replicate] at e2
      exact e2
    obtain ⟨e1', nl⟩ : X.N[i - ts.length]? = some y ∧ scope.names.lookup y ≠ some .local := by
      rcases b.apart _ y e1M with z | z
      · exfalso
        rcases e3 with e3 | e3 | e3 <;> rcases hk e3 with q | ⟨_, q⟩ <;> (rw [z] at q; cases q)
      · exact z
    have fr : scope.names.lookup y = some .free := by
      rcases e3 with e3 | e3 | e3
      · rcases hk e3 with z | ⟨z, _⟩
        · exact absurd z nl
        · cases z
      · rcases hk e3 with z | ⟨_, z⟩
        · exact absurd rfl (b.cell (y, .cell) (lookup_mem z))
        · exact z
      · rcases hk e3 with z | ⟨z, _⟩
        · exact z
        · cases z
    obtain ⟨m0, hn0, hl0⟩ := I.loc
    have vis : Vis X.env.scope y := by
      rcases hfree y fr with z | z
      · exact .inr (.inl z)
      · exact .inr (.inr z)
    obtain ⟨u, r, l⟩ := hl0 _ y v e1' e2' vis
    obtain ⟨c, ec⟩ := h2 y (lookup_mem fr)
    refine ⟨u, r, .inr ⟨?_, c, ec, ?_⟩⟩
    · rcases e3 with e3 | e3 | e3
      · rcases hk e3 with z | ⟨z, _⟩
        · exact absurd z nl
        · cases z
      · exact .inl e3
      · exact .inr e3
    · rcases l with ⟨kl, _⟩ | ⟨_, c', ec', z⟩
      · rcases hfree y fr with q | q <;> (rw [kl] at q; cases q)
      · rw [h1 y c ec] at ec'
        cases ec'
        obtain ⟨o, ho, hd⟩ := z
        exact ⟨o, k _ _ ho, hd⟩
  · obtain ⟨v, o, ho, hd⟩ := I.cell x c (h1 x c e)
    exact ⟨v, o, k _ _ ho, hd⟩
  · obtain ⟨e, n, ne, nf, d⟩ := I.pin p hp
    refine ⟨k _ _ e, n, Nat.ne_of_lt (Nat.lt_of_lt_of_le (Heap.lt_size e) hC), fun z => ?_, d⟩
    rcases sub _ z with z | z
    · exact ne z
    · exact nf z
  · show _ = (ts ++ M).length
    rw [List.length_append, List.length_append, List.length_replicate, I.len, b.len]
/-- the block is over: the list at D is tracked from now on -/
theorem Inv.unblk {D : Addr} {ys : List V} {us : List Value} {n : Nat} {σ' : St} {H' : Hp} (I : Inv X pins σ H s) (J : Inv (X.blk ts M scope cl C fp s H) pins σ' H' s1) (hf : ∀ b ∈ fp, FpOk X pins H b) (hD : s.heap.objs.size ≤ D) (hn : H' D = none)
    (ho : s1.heap.get? D = some { cls := .type "list", data := .seq us.toArray n }) (r : Vals ys us) (hz : ys.length ≤ sizeLine) : Inv X pins σ (upd H' D (.lst ys)) s1 := by
  have u : Un (frs X.stack) fp H H' s.heap s1.heap := J.base
  have ndt : ∀ b o, H' b = some o → b ≠ D := fun b o e z => by rw [z, hn] at e; cases e
  refine I.call' (ch := fp) J.os ⟨u.keep, u.slot, fun b o e n hx => ?_, u.there, fun b xs e => ?_, fun b o xs e => ?_, fun b ps e => ?_⟩ (fun b o e => ?_) J.bare (fun b hb => ?_)
  · rw [upd_ne (Nat.ne_of_lt (Nat.lt_of_lt_of_le (Heap.lt_size e) hD))]
    exact u.free b o e n hx
  · have z := u.tups b xs e
    rw [upd_ne (ndt b _ z)]; exact z
  · have z := u.frzs b o xs e
    rw [upd_ne (ndt b _ z)]; exact z
  · obtain ⟨more, z⟩ := u.tbls b ps e
    exact ⟨more, by rw [upd_ne (ndt b _ z)]; exact z⟩
  · by_cases hb : b = D
    · subst hb
      rw [upd_same] at e
      cases e
      exact ⟨hz, us, n, r, ho⟩
    · rw [upd_ne hb] at e
      exact (J.hok b o e).stay (fun c v _ q => q) (fun c q => by rw [upd_ne (ndt c _ q)]; exact q) fun c xs q => by rw [upd_ne (ndt c _ q)]; exact q
  · obtain ⟨f0, f1, f2, f3, f4, f5⟩ := hf b hb
    exact ⟨f3, f1, f4, f5⟩
end

/-! ### the tests of a clause -/
def PIf (X : Cx) (ifs : List Expr) (t : TT) : Prop :=
  ∀ (pins : List (Addr × Obj)) (s : Shared) (σ : St) (H : Hp) (Q : Bool → Hp → Prop), Inv X pins σ H s → t σ H Q →
    wpAny (model X.prog X.w) X.A (forIn ifs true fun c r => if r = true then do let ok ← isTrue c X.env (eval c X.env); pure (ForInStep.yield ok) else pure (ForInStep.yield r)) (TP X pins σ Q) X.xe s
def tYes : TT := fun _ H Q => Q true H
theorem pif_nil {X : Cx} : PIf X [] tYes := fun _ _ _ H _ I h => wpAny_tests_nil ⟨H, I, h⟩
/-- a new list is told -/
def NewL (Q : VK) (ys : List V) (H : Hp) : Prop := ∀ p, H p = none → Q (.ref p) (upd H p (.lst ys))
/-- [elt for target in iter if ..]: W the invariant by the turn, a measure, the list so far -/
def tComp (k : Nat) (wi : TI) (g : TG) (tf : TT) (te : TE) : TE := fun σ H Q => wi σ H fun J H1 => ∃ W : Nat → Nat → List V → Hp → Prop, (∃ m, W 0 m [] H1) ∧ ∀ i m ys H2, W i m ys H2 →
  (J.stop i H2 ∧ NewL Q ys H2) ∨
  (J.go i H2 ∧ ys.length < sizeLine ∧ ∀ x H3, J.yld i H2 x H3 → g x (List.replicate k none ++ σ) H3 fun σ4 H4 => σ4.drop k = σ ∧ tf σ4 H4 fun b H5 =>
    if b = true then te σ4 H5 fun y H6 => ∃ m', m' < m ∧ W (i + 1) m' (ys ++ [y]) H6 else ∃ m', m' < m ∧ W (i + 1) m' ys H5)

section
variable {prog : Program} {w : World} {A : Around} {R : Result → Shared → Prop} {s : Shared}
/-- the loop of a comprehension, any target -/
theorem compLoop_any {elt target iter : Expr} {ifs : List Expr} {scope : Scope} {pos : Pos} {it acc : Value} {env : Env} (I : Nat → Shared → Prop)
    (turn : ∀ n s, I n s → wpAny (model prog w) A (pyNext it) (fun r s₁ => match r with
      | none => R (.ok .next) s₁
      | some v => wpAny (model prog w) A (letOwnedTupleGo target it v) (fun _ s₂ => wpAny (model prog w) A (assign target env v) (fun _ s₂ =>
          wpAny (model prog w) A (forIn ifs true fun c r => if r = true then do let ok ← isTrue c env (eval c env); pure (ForInStep.yield ok) else pure (ForInStep.yield r)) (fun ok s₃ =>
            if ok = true then wpAny (model prog w) A (eval elt env) (fun x s₄ =>
              wpAny (model prog w) A (call (.builtin "list.append") [acc, x]) (fun _ s₅ => ∃ m, m < n ∧ I m s₅) (notedBy (model prog w) A env fun e s' => R (.error e) s') s₄) (notedBy (model prog w) A env fun e s' => R (.error e) s') s₃
            else ∃ m, m < n ∧ I m s₃) (notedBy (model prog w) A env fun e s' => R (.error e) s') s₂) (notedBy (model prog w) A env fun e s' => R (.error e) s') s₂) (notedBy (model prog w) A env fun e s' => R (.error e) s') s₁) (notedBy (model prog w) A env fun e s' => R (.error e) s') s)
    (n : Nat) (h : I n s) :
    codeAny (model prog w) A (.compLoop (.ListComp elt [⟨target, iter, ifs, 0⟩] scope pos) 0 it acc env) R s := by
  refine codeAny_loop rfl I (fun n s hI => ?_) n h
  show wpAny _ A ((compTurn (.ListComp elt [⟨target, iter, ifs, 0⟩] scope pos) 0 it acc env).onRaise (fun x => do noteFrame x env; theTreesLotGoes x)) _ _ s
  refine wpAny_noted ?_
  rw [compTurn_list]
  refine wpAny_bind (wpAny_standAt (wpAny_bind (wpAny_mono (turn n s hI) (fun r s₁ h₁ => ?_) fun _ _ h' => h')))
  cases r with
  | none => exact wpAny_pure h₁
  | some v =>
    refine wpAny_bind (wpAny_mono h₁ (fun _ s₂ h₂ => ?_) fun _ _ h' => h')
    refine wpAny_bind (wpAny_mono h₂ (fun _ s₂ h₂ => wpAny_bind (wpAny_mono h₂ (fun ok s₃ h₃ => ?_) fun _ _ h' => h')) fun _ _ h' => h')
    cases ok with
    | false => exact wpAny_pure ⟨rfl, h₃⟩
    | true =>
      exact wpAny_bind (wpAny_bind (wpAny_mono h₃ (fun x s₄ h₄ => wpAny_bind (wpAny_mono h₄ (fun _ s₅ h₅ => wpAny_pure (wpAny_pure ⟨rfl, h₅⟩)) fun _ _ h' => h')) fun _ _ h' => h'))
end

section
variable {X : Cx} {ts : List Str} {elt tg iter : Expr} {ifs : List Expr} {scope : Scope} {pos : Pos} {wi : TI} {g : TG} {tf : TT} {te : TE}
/-- the block of a comprehension, from the iterator on -/
theorem blk_run {pins : List (Addr × Obj)} {σ : St} {H : Hp} {s : Shared} {cl : List (Str × Addr)} {it : Addr} {fp : List Addr} {tn : Nat → Heap → Prop} {J : It} {RR : Value → Addr → Result → Shared → Prop} {E : Value → Shared → Prop} {Q : VK}
    (b : BlkOk X ts M scope) (hc : X.calm = true) (hg : ∀ cl C fp s H, PG (X.blk ts M scope cl C fp s H) tg g) (hif : ∀ cl C fp s H, PIf (X.blk ts M scope cl C fp s H) ifs tf) (he : ∀ cl C fp s H, PE (X.blk ts M scope cl C fp s H) elt te)
    (I : Inv X pins σ H s) (h1 : ∀ y c, cl.lookup y = some c → X.env.cells.lookup y = some c) (h2 : ∀ y, (y, NameKind.free) ∈ scope.names → ∃ c, cl.lookup y = some c) (T : Turn X.prog X.w X.K tg J fp it tn) (st : tn 0 s.heap) (hf : ∀ b ∈ fp, FpOk X pins H b)
    (hw : ∃ W : Nat → Nat → List V → Hp → Prop, (∃ m, W 0 m [] H) ∧ ∀ i m ys H2, W i m ys H2 →
      (J.stop i H2 ∧ NewL Q ys H2) ∨
      (J.go i H2 ∧ ys.length < sizeLine ∧ ∀ x H3, J.yld i H2 x H3 → g x (List.replicate ts.length none ++ σ) H3 fun σ4 H4 => σ4.drop ts.length = σ ∧ tf σ4 H4 fun b H5 =>
        if b = true then te σ4 H5 fun y H6 => ∃ m', m' < m ∧ W (i + 1) m' (ys ++ [y]) H6 else ∃ m', m' < m ∧ W (i + 1) m' ys H5))
    (fin : ∀ D C s1 H2 ys m, Inv X pins σ (upd H2 D (.lst ys)) s1 → s1.heap.Ns C m → (upd H2 D (.lst ys)) C = none → C ≠ X.env.locals → X.s₀.heap.objs.size ≤ C → (∀ x c, X.env.cells.lookup x = some c → c ≠ C) → (∀ p ∈ X.pn ++ pins, p.1 ≠ C) →
      Q (.ref D) (upd H2 D (.lst ys)) → RR (.ref D) C (.ok .next) s1) :
    wpAny (model X.prog X.w) X.A (newList []) (fun acc s₃ => wpAny (model X.prog X.w) X.A (newFunctionEnv scope X.env.globals cl [] X.env.qual none .none (some X.env)) (fun cenv s₄ =>
      codeAny (model X.prog X.w) X.A (.compStart (.ListComp elt [⟨tg, iter, ifs, 0⟩] scope pos) 0 (.ref it) acc { cenv with scope := relabel scope X.env }) (RR acc cenv.locals) s₄) E s₃) E s := by
  obtain ⟨W, ⟨m0, w0⟩, turn⟩ := hw
  refine wpAny_newObj_type (wpAny_newFunctionEnv b.cell (by intro y hy; simp at hy) (fun h₁ hns₁ hsb₁ => ?_) b.kind)
  dsimp only at hns₁ hsb₁ ⊢
  generalize hH2 : s.heap.push { cls := .type "list", dict := none, data := .seq ([] : List Value).toArray } = G2 at hns₁ hsb₁ ⊢
  have hC : G2.objs.size = s.heap.objs.size + 1 := by rw [← hH2, Heap.size_push]
  have hDC : s.heap.objs.size ≠ G2.objs.size := by rw [hC]; exact Nat.ne_of_lt (Nat.lt_succ_self _)
  have hCle : s.heap.objs.size ≤ G2.objs.size := by rw [hC]; exact Nat.le_succ _
  have below : ∀ b, b < s.heap.objs.size → b ≠ G2.objs.size ∧ b ≠ s.heap.objs.size := fun b hb => ⟨by rw [hC]; exact Nat.ne_of_lt (Nat.lt_succ_of_lt hb), Nat.ne_of_lt hb⟩
  have old : ∀ b o, s.heap.get? b = some o → h₁.get? b = some o := fun b o e => hsb₁.extBut b o (below b (Heap.lt_size e)).1 (Heap.get?_push_of_some _ (hH2 ▸ Heap.get?_push_of_some _ e))
  have hacc : h₁.get? s.heap.objs.size = some { cls := .type "list", data := .seq ([] : List Value).toArray 0 } := hsb₁.extBut _ _ hDC (Heap.get?_push_of_some _ (hH2 ▸ Heap.get?_push_size _ rfl))
  have hlt : ∀ b ∈ fp, b < s.heap.objs.size := fun b hb => by
    obtain ⟨o, e, _⟩ := T.obj 0 _ st b hb
    exact Heap.lt_size e
  have hDf : s.heap.objs.size ∉ fp := fun hm => Nat.lt_irrefl _ (hlt _ hm)
  have cellLt : ∀ x c, X.env.cells.lookup x = some c → c < s.heap.objs.size := fun x c e => by
    obtain ⟨v, z⟩ := I.cell x c e
    exact z.lt
  have pinLt : ∀ p ∈ X.pn ++ pins, p.1 < s.heap.objs.size := fun p hp => Heap.lt_size (I.pin p hp).1
  have J0 : Inv (X.blk ts M scope cl G2.objs.size fp s H) pins (List.replicate ts.length none ++ σ) H { s with heap := h₁, toks := s.toks + ([] : List (Str × Value)).length } := I.blk b h1 h2 hf hlt hCle old hns₁
  -- the objects of the block, asked of the block's own context
  have stat : ∀ {H' : Hp} {ps : List (Addr × Obj)}, (∀ b ∈ fp, H' b = none) → (∀ p ∈ ps, p ∈ pins ∨ p.1 = s.heap.objs.size) → ∀ b ∈ fp, FpOk (X.blk ts M scope cl G2.objs.size fp s H) ps H' b := fun {H' ps} hn hp b hb => by
    refine ⟨hn b hb, (below b (hlt b hb)).1, J0.ok.exfs b hb, .inl hb, fun x c e => (hf b hb).2.2.2.2.1 x c (h1 x c e), fun p hm => ?_⟩
    rcases List.mem_append.mp hm with z | z
    · exact (hf b hb).2.2.2.2.2 p (List.mem_append_left _ z)
    · rcases hp p z with z | z
      · exact (hf b hb).2.2.2.2.2 p (List.mem_append_right _ z)
      · rw [z]; exact Ne.symm (below b (hlt b hb)).2
  have dpin : ∀ {us : List Value} {n : Nat} {σ' : St} {H' : Hp} {s' : Shared}, Inv (X.blk ts M scope cl G2.objs.size fp s H) pins σ' H' s' → s'.heap.get? s.heap.objs.size = some { cls := .type "list", data := .seq us.toArray n } → H' s.heap.objs.size = none →
      Inv (X.blk ts M scope cl G2.objs.size fp s H) (pins ++ [(s.heap.objs.size, { cls := .type "list", data := .seq us.toArray n })]) σ' H' s' := fun {us n σ' H' s'} Jn e hn => Jn.pins_of fun p hp => by
    rcases List.mem_append.mp hp with z | z
    · exact Jn.pin p (List.mem_append_right _ z)
    · have z' := List.mem_singleton.mp z
      subst z'
      refine ⟨e, hn, hDC, fun z => ?_, fun v z => nomatch z⟩
      obtain ⟨_, o, ho, _⟩ := I.stack.mem z
      exact absurd (Heap.lt_size ho) (Nat.lt_irrefl _)
  have loop : ∀ s₃ : Shared, s₃ = { s with heap := h₁, toks := s.toks + ([] : List (Str × Value)).length } →
      codeAny (model X.prog X.w) X.A (.compLoop (.ListComp elt [⟨tg, iter, ifs, 0⟩] scope pos) 0 (.ref it) (.ref s.heap.objs.size) (compEnvC scope cl G2.objs.size X.env)) (RR (.ref s.heap.objs.size) G2.objs.size) s₃ := by
    rintro s₃ rfl
    refine compLoop_any (fun n s' => ∃ i ys us c H', Inv (X.blk ts M scope cl G2.objs.size fp s H) pins (List.replicate ts.length none ++ σ) H' s' ∧ tn i s'.heap ∧ (∀ b ∈ fp, H' b = none) ∧
      s'.heap.get? s.heap.objs.size = some { cls := .type "list", data := .seq us.toArray c } ∧ H' s.heap.objs.size = none ∧ Vals ys us ∧ ys.length ≤ sizeLine ∧ W i n ys H') ?_ m0
      ⟨0, [], [], 0, H, J0, T.keep _ _ _ st fun b _ o e => old b o e, fun b hb => (hf b hb).1, hacc, I.hok.fresh (Nat.le_refl _), .nil, Nat.zero_le _, w0⟩
    rintro n s' ⟨i, ys, us, c, H', J', st', fr', ho', hn', r', hz', w'⟩
    have Jp := dpin J' ho' hn'
    have pinOk : ∀ p ∈ pins ++ [(s.heap.objs.size, ({ cls := .type "list", data := .seq us.toArray c } : Obj))], p ∈ pins ∨ p.1 = s.heap.objs.size := fun p hp => (List.mem_append.mp hp).imp id fun z => by rw [List.mem_singleton.mp z]
    rcases turn i n ys H' w' with ⟨stop, q⟩ | ⟨go, hsz, step⟩
    · refine wpAny_mono (T.done (X.blk ts M scope cl G2.objs.size fp s H) rfl rfl rfl hc i _ s' _ H' _ Jp (stat fr' pinOk) st' stop) (fun r s4 ⟨hr, J4⟩ => ?_) fun _ _ z => z
      subst hr
      have J4' : Inv (X.blk ts M scope cl G2.objs.size fp s H) pins (List.replicate ts.length none ++ σ) H' s4 := J4.unpinned
      have e4 := (J4.pin (s.heap.objs.size, _) (List.mem_append_right _ (List.mem_append_right _ (List.mem_singleton.mpr rfl)))).1
      obtain ⟨m, hm, _⟩ := J4'.loc
      refine fin _ _ s4 H' ys m (I.unblk J4' hf (Nat.le_refl _) hn' e4 r' hz') hm ?_ (Ne.symm (Nat.ne_of_lt (Nat.lt_of_lt_of_le I.lt hCle))) (Nat.le_trans I.sz hCle) (fun x c e => Nat.ne_of_lt (Nat.lt_of_lt_of_le (cellLt x c e) hCle)) (fun p hp => Nat.ne_of_lt (Nat.lt_of_lt_of_le (pinLt p hp) hCle)) (q _ hn')
      rw [upd_ne (Ne.symm hDC)]
      exact J4'.free
    · refine wpAny_mono (T.item (X.blk ts M scope cl G2.objs.size fp s H) rfl rfl rfl hc i _ s' _ H' _ Jp (stat fr' pinOk) st' go) (fun r s4 ⟨u, hr, h4⟩ => ?_) fun _ _ z => z
      subst hr
      refine wpAny_mono h4 (fun _ s5 ⟨x, H5, I5, r5, y5, st5, fr5⟩ => ?_) fun _ _ z => z
      have I5' := I5.pinned (stat fr5 pinOk) (T.obj _ _ st5)
      refine wpAny_mono (hg cl G2.objs.size fp s H _ s5 _ H5 x u _ I5' r5 (step x H5 y5)) (fun _ s6 ⟨σ6, H6, I6, q6d, q6⟩ => ?_) fun _ _ z => False.elim z
      refine wpAny_mono (hif cl G2.objs.size fp s H _ s6 σ6 H6 _ I6 q6) (fun ok s7 ⟨H7, I7, q7⟩ => ?_) fun _ _ z => False.elim z
      have weak : ∀ {ps : List (Addr × Obj)} {H8 : Hp} {s8 : Shared}, Inv (X.blk ts M scope cl G2.objs.size fp s H) ps σ6 H8 s8 → Inv (X.blk ts M scope cl G2.objs.size fp s H) ps (List.replicate ts.length none ++ σ) H8 s8 := fun {ps H8 s8} K8 => by
        have len6 : σ6.length = (ts ++ M).length := K8.len
        rw [List.length_append, b.len] at len6
        refine K8.weak (by rw [List.length_append, List.length_replicate, len6, I.len]) fun j v e => ?_
        have hj : ts.length ≤ j := by
          by_cases q : ts.length ≤ j
          · exact q
          · rw [List.getElem?_append_left (by simpa using q), List.getElem?_replicate] at e
            split at e <;> cases e
        rw [List.getElem?_append_right (by simpa using hj), List.length_replicate, ← q6d, List.getElem?_drop] at e
        rwa [show ts.length + (j - ts.length) = j by omega] at e
      have back : ∀ {H8 : Hp} {s8 : Shared}, Inv (X.blk ts M scope cl G2.objs.size fp s H) (pins ++ [(s.heap.objs.size, ({ cls := .type "list", data := .seq us.toArray c } : Obj))] ++ pinsAt fp s5.heap) σ6 H8 s8 →
          Inv (X.blk ts M scope cl G2.objs.size fp s H) pins (List.replicate ts.length none ++ σ) H8 s8 ∧ tn (i + 1) s8.heap ∧ (∀ b ∈ fp, H8 b = none) ∧ s8.heap.get? s.heap.objs.size = some { cls := .type "list", data := .seq us.toArray c } ∧ H8 s.heap.objs.size = none := fun {H8 s8} K8 => by
        have pD := K8.pin (s.heap.objs.size, _) (List.mem_append_right _ (List.mem_append_left _ (List.mem_append_right _ (List.mem_singleton.mpr rfl))))
        refine ⟨(weak K8).unpinned.unpinned, T.keep _ _ _ st5 fun b hb o e => (K8.pin (b, o) (List.mem_append_right _ (List.mem_append_right _ (mem_pinsAt hb e)))).1, fun b hb => ?_, pD.1, pD.2.1⟩
        obtain ⟨o, e, _⟩ := T.obj _ _ st5 b hb
        exact (K8.pin (b, o) (List.mem_append_right _ (List.mem_append_right _ (mem_pinsAt hb e)))).2.1
      cases ok with
      | false =>
        obtain ⟨m', hm', w7⟩ := q7
        obtain ⟨a1, a2, a3, a4, a5⟩ := back I7
        exact ⟨m', hm', i + 1, ys, us, c, H7, a1, a2, a3, a4, a5, r', hz', w7⟩
      | true =>
        refine wpAny_mono (he cl G2.objs.size fp s H _ s7 σ6 H7 _ I7 q7) (fun yv s8 ⟨y, H8, I8, r8, m', hm', w8⟩ => ?_) fun _ _ z => False.elim z
        obtain ⟨a1, a2, a3, a4, a5⟩ := back I8
        refine append_at (hsz := by rw [List.size_toArray, ← r'.length]; exact hz') a4 fun h9 hs9 hD9 => ?_
        have e9 : us.toArray.push yv = (us ++ [yv]).toArray := by simp
        rw [e9] at hD9
        refine ⟨m', hm', i + 1, ys ++ [y], us ++ [yv], c + 1, H8, ?_, T.keep _ _ _ a2 fun b hb o e => hs9.extBut b o (fun z => hDf (z ▸ hb)) e, a3, hD9, a5, r'.append (.cons r8 .nil), ?_, w8⟩
        · refine a1.turned (t' := s8.toks) (it := s.heap.objs.size) (fun b o hb e => hs9.extBut b o hb e) a5 hDC (.inr (Nat.le_refl _)) (fun x c e => Nat.ne_of_lt (cellLt x c (h1 x c e))) fun p hp => Nat.ne_of_lt (pinLt p hp)
        · rw [List.length_append, List.length_singleton]; omega
  exact codeAny_compStart_list (loop _ rfl) (T.self _ 0 _ _ _ (T.keep _ _ _ st fun b _ o e => old b o e) (loop _ rfl))

/-- as a value -/
theorem pe_lcG (b : BlkOk X ts M scope) (hc : X.calm = true) (hi : PI X tg iter wi) (hg : ∀ cl C fp s H, PG (X.blk ts M scope cl C fp s H) tg g) (hif : ∀ cl C fp s H, PIf (X.blk ts M scope cl C fp s H) ifs tf) (he : ∀ cl C fp s H, PE (X.blk ts M scope cl C fp s H) elt te)
    (hs : ∀ x, foldedSetIterable iter X.env x = pure x := by intro _; rfl) : PE X (.ListComp elt [⟨tg, iter, ifs, 0⟩] scope pos) (tComp ts.length wi g tf te) := by
  intro pins s σ H Q I h
  obtain ⟨cl, hcl, h1, h2⟩ := closure_of (scope := scope) (env := X.env) fun p hp hk => I.ok.has p.1 (b.free p hp hk)
  rw [eval_ListComp]
  refine wpAny_comprehension_free (use := none) rfl hs hcl b.kind b.loc (thn (hi pins s σ H _ I h) fun v s1 h' => thn h' fun itv s2 h2' => ?_)
  obtain ⟨it, fp, tn, J, H2, e, I2, T, st2, f2, hw⟩ := h2'
  subst e
  refine blk_run (RR := fun acc C => compPost (model X.prog X.w) X.A X.xe none (EP X pins σ Q) acc C) b hc hg hif he I2 h1 h2 T st2 f2 hw ?_
  intro D C s3 H3 ys m I3 hn hC hL hsz hcell hpin q
  exact ⟨m, hn, fun h' hs' => ⟨.ref D, _, I3.turned (t' := s3.toks) (it := C) (fun b o hb e => hs'.extBut b o hb e) hC hL (.inr hsz) hcell hpin, rfl, q⟩⟩
/-- name = [..] -/
theorem ps_lcG {i : Nat} {y : Str} {py spos : Pos} (hN : X.N.Nodup) (hy : X.N[i]? = some y) (hk : X.env.kindOf y = some .local) (b : BlkOk X ts M scope) (hc : X.calm = true) (hi : PI X tg iter wi)
    (hg : ∀ cl C fp s H, PG (X.blk ts M scope cl C fp s H) tg g) (hif : ∀ cl C fp s H, PIf (X.blk ts M scope cl C fp s H) ifs tf) (he : ∀ cl C fp s H, PE (X.blk ts M scope cl C fp s H) elt te)
    (hsw : swapsWith (.ListComp elt [⟨tg, iter, ifs, 0⟩] scope pos) (some (.Name y py)) spos.line X.env = pure true) (hs : ∀ x, foldedSetIterable iter X.env x = pure x := by intro _; rfl) :
    PS X (.Assign [.Name y py] (.ListComp elt [⟨tg, iter, ifs, 0⟩] scope pos) spos) (tAsg (tComp ts.length wi g tf te) (gName i)) := by
  intro pins s σ H D I h
  obtain ⟨cl, hcl, h1, h2⟩ := closure_of (scope := scope) (env := X.env) fun p hp hk => I.ok.has p.1 (b.free p hp hk)
  rw [exec_Assign_Name_used _ _ _ _ hsw]
  refine wpAny_bind (wpAny_standAt (wpAny_bind ?_))
  show wpAny _ X.A (do let _ ← comprehension (.ListComp elt [⟨tg, iter, ifs, 0⟩] scope pos) scope X.env _ (newList []) false (eval iter X.env) (some (assign (.Name y py) X.env))) _ _ s
  refine wpAny_bind (wpAny_mono (wpAny_comprehension_free (use := some (assign (.Name y py) X.env)) (Q := fun _ s' => SP X pins D .next s') rfl hs hcl b.kind b.loc
    (thn (hi pins s σ H _ I h) fun v s1 h' => thn h' fun itv s2 h2' => ?_)) (fun _ s' hq => wpAny_pure (wpAny_pure hq)) fun _ _ e => e)
  obtain ⟨it, fp, tn, J, H2, e, I2, T, st2, f2, hw⟩ := h2'
  subst e
  refine blk_run (RR := fun acc C => compPost (model X.prog X.w) X.A X.xe (some (assign (.Name y py) X.env)) (fun _ s' => SP X pins D .next s') acc C) (Q := fun v H1 => gName i v σ H1 D.nx) b hc hg hif he I2 h1 h2 T st2 f2 hw ?_
  intro D' C s3 H3 ys m I3 hn hC hL hsz hcell hpin q
  show wpAny _ X.A (assign (.Name y py) X.env (.ref D')) _ _ _
  refine wpAny_assign_Name (store_ok2 (v := .ref D') I3 hN hy (.inl hk) rfl (fun s4 I4 ⟨a, hs4, ha⟩ => ?_) (.inr hk))
  have hCa : C ≠ a := by
    rcases ha with rfl | ha
    · exact hL
    · exact Ne.symm (hcell y a ha)
  exact ⟨m, hn.sameBut hs4 hCa, fun h' hs' => ⟨_, _, I4.turned (t' := s4.toks) (it := C) (fun b o hb e => hs'.extBut b o hb e) hC hL (.inr hsz) hcell hpin, q⟩⟩
end

/-! ### the forms one uses: one name as the target -/
theorem blk_mk {X : Cx} {ts : List Str} {scope sc : Scope} {N : List Str} (eN : X.N = N) (es : X.env.scope = sc) (h1 : scope.kind = .function) (h2 : (scope.names.all fun y => decide (y.2 ≠ .cell)) = true) (h3 : (scope.names.all fun y => decide (y.2 = .local → scope.names.lookup y.1 = some .local)) = true)
    (h4 : (scope.names.all fun p => decide (p.2 = .free → sc.names.lookup p.1 = some .cell ∨ sc.names.lookup p.1 = some .free)) = true) (h5 : (N.all fun y => decide (scope.names.lookup y ≠ some .local)) = true) : BlkOk X ts N scope := by
  subst eN es
  exact ⟨h1, fun y hy => of_decide_eq_true (List.all_eq_true.mp h2 y hy), fun y hy => of_decide_eq_true (List.all_eq_true.mp h3 y hy), fun y hy => of_decide_eq_true (List.all_eq_true.mp h4 y hy), rfl, fun i y hy => .inr ⟨hy, of_decide_eq_true (List.all_eq_true.mp h5 y (List.mem_of_getElem? hy))⟩⟩
/-- what the block of one name is asked, all of it read off the text -/
structure Lc (N : List Str) (sc scope : Scope) (x : Str) : Prop where
  nd : ([x] ++ N).Nodup
  kind : scope.kind = .function
  own : scope.names.lookup x = some .local
  cell : (scope.names.all fun y => decide (y.2 ≠ .cell)) = true
  loc : (scope.names.all fun y => decide (y.2 = .local → scope.names.lookup y.1 = some .local)) = true
  free : (scope.names.all fun p => decide (p.2 = .free → sc.names.lookup p.1 = some .cell ∨ sc.names.lookup p.1 = some .free)) = true
  apart : (N.all fun y => decide (scope.names.lookup y ≠ some .local)) = true
section
variable {X : Cx} {N : List Str} {sc scope : Scope} {x : Str} {px pos : Pos} {elt iter : Expr} {ifs : List Expr} {wi : TI} {tf : TT} {te : TE}
theorem Lc.ok (L : Lc N sc scope x) (eN : X.N = N) (es : X.env.scope = sc) : BlkOk X [x] N scope := blk_mk eN es L.kind L.cell L.loc L.free L.apart
theorem Lc.tg (L : Lc N sc scope x) (eN : X.N = N) (cl : List (Str × Addr)) (C : Addr) (fp : List Addr) (s : Shared) (H : Hp) : PG (X.blk [x] N scope cl C fp s H) (.Name x px) (gName 0) :=
  pg_name (X := X.blk [x] N scope cl C fp s H) (i := 0) (by show ([x] ++ N).Nodup; exact L.nd) rfl (.inl (lookup_relabel_local L.own)) (.inr (lookup_relabel_local L.own))
theorem pe_lc (L : Lc N sc scope x) (eN : X.N = N) (es : X.env.scope = sc) (hc : X.calm = true) (hi : PI X (.Name x px) iter wi) (hif : ∀ cl C fp s H, PIf (X.blk [x] N scope cl C fp s H) ifs tf) (he : ∀ cl C fp s H, PE (X.blk [x] N scope cl C fp s H) elt te)
    (hs : ∀ x, foldedSetIterable iter X.env x = pure x := by intro _; rfl) : PE X (.ListComp elt [⟨.Name x px, iter, ifs, 0⟩] scope pos) (tComp 1 wi (gName 0) tf te) :=
  pe_lcG (ts := [x]) (M := N) (L.ok eN es) hc hi (fun cl C fp s H => L.tg eN cl C fp s H) hif he hs
end
end L2

namespace L2
open PySem PySem.Spec PyProof.Rows
/-- an exception that is not wished does not come -/
theorem passb0 {X : Cx} {P : Program} {w : World} : Passes (CXb P w) X E0 := fun _ _ _ _ _ _ _ h => by
  obtain ⟨_, _, _, _, _, q⟩ := h
  exact q.elim
theorem at_upd {H : Hp} {l p : Addr} {o u : HO} (h : H l = some o) (hp : H p = none) : upd H p u l = some o := by
  rw [upd_ne (ne_of_none h hp)]; exact h
theorem same_upd {H : Hp} {p : Addr} {u : HO} (hp : H p = none) : Same H (upd H p u) := fun _ _ h => at_upd h hp
theorem same_upd' {H H1 : Hp} {p : Addr} {u : HO} (h : Same H H1) (hp : H1 p = none) : Same H (upd H1 p u) := h.trans (same_upd hp)
theorem szOk {n : Nat} (h : n ≤ 16777216) : n ≤ sizeLine := by rw [sizeLine_eq]; exact h
theorem szLt {n : Nat} (h : n < 16777216) : n < sizeLine := by rw [sizeLine_eq]; exact h
end L2
namespace L2
open PySem PySem.Spec PyProof.Rows
/-- two pieces of a block with an assertion between them -/
def tCut (t u : TS) : TS := fun D σ H => ∃ N : St → Hp → Prop, t { D with nx := N } σ H ∧ ∀ σ' H', N σ' H' → u D σ' H'
theorem pss_cut {X : Cx} {st : Stmt} {rest : List Stmt} {t u : TS} (h1 : PS X st t) (h2 : PSs X rest u) : PSs X (st :: rest) (tCut t u) := by
  intro pins s σ H D I h
  obtain ⟨N, hN, hu⟩ := h
  refine wpAny_execs_cons (thn (h1 pins s σ H { D with nx := N } I hN) fun f s1 q => ?_)
  cases f with
  | next =>
    obtain ⟨σ', H', I', q⟩ := q
    exact h2 pins s1 σ' H' D I' (hu σ' H' q)
  | ret v => exact q
  | brk => exact q
  | cont => exact q
end L2

/-! ## sum, all, any of a list; a loop over a text -/
namespace L2
open PySem PySem.Spec PyProof.Rows
section
variable {X : Cx}
/-! ### over a text -/
/-- an iterator that keeps to itself -/
def Itv (n : Nat) (val : Nat → V) : It := ⟨fun i _ => i < n, fun i H x H' => H' = H ∧ x = val i, fun i _ => n ≤ i⟩
end
/-- a comprehension over places 0 .. n - 1 of which nothing is made but values -/
theorem comp_val {n : Nat} {val : Nat → V} {k : Nat} {g : TG} {te : TE} {σ : St} {H : Hp} {Q : VK} (f : V → V) (hl : n ≤ sizeLine)
    (hs : ∀ i H', i < n → Same H H' → ∀ R : V → Hp → Prop, (∀ H2, Same H' H2 → R (f (val i)) H2) → g (val i) (List.replicate k none ++ σ) H' fun σ4 H4 => σ4.drop k = σ ∧ te σ4 H4 R)
    (hd : ∀ H', Same H H' → NewL Q ((List.range n).map fun i => f (val i)) H') :
    ∃ W : Nat → Nat → List V → Hp → Prop, (∃ m, W 0 m [] H) ∧ ∀ i m ys H2, W i m ys H2 →
      ((Itv n val).stop i H2 ∧ NewL Q ys H2) ∨
      ((Itv n val).go i H2 ∧ ys.length < sizeLine ∧ ∀ x H3, (Itv n val).yld i H2 x H3 → g x (List.replicate k none ++ σ) H3 fun σ4 H4 => σ4.drop k = σ ∧ tYes σ4 H4 fun b H5 =>
        if b = true then te σ4 H5 fun y H6 => ∃ m', m' < m ∧ W (i + 1) m' (ys ++ [y]) H6 else ∃ m', m' < m ∧ W (i + 1) m' ys H5) := by
  refine ⟨fun i m ys H2 => m = n - i ∧ i ≤ n ∧ ys = (List.range i).map (fun i => f (val i)) ∧ Same H H2, ⟨n, by simp, Nat.zero_le _, rfl, Same.refl H⟩, ?_⟩
  rintro i m ys H2 ⟨rfl, hi, rfl, sm⟩
  by_cases hlt : i < n
  · refine .inr ⟨hlt, ?_, fun x H3 y => ?_⟩
    · rw [List.length_map, List.length_range]; omega
    · obtain ⟨e, y⟩ := y
      subst e y
      refine hs i _ hlt sm _ fun H4 s4 => ?_
      refine ⟨n - (i + 1), by omega, rfl, hlt, ?_, sm.trans s4⟩
      rw [List.range_succ, List.map_append]
      rfl
  · have e : i = n := by omega
    subst e
    exact .inl ⟨Nat.le_refl _, hd H2 sm⟩
end L2

/-! ## min of a list with a default -/
namespace L2
open PySem PySem.Spec PyProof.Rows
section
variable {prog : Program} {w : World} {A : Around} {R : Result → Shared → Prop} {I p : Addr} {its : List Value} {ns : List Int} {d : Value}
end
end L2
namespace L2
open PySem PySem.Spec PyProof.Rows
section
variable {prog : Program} {w : World} {A : Around} {R : Result → Shared → Prop} {I p : Addr} {its : List Value} {ns : List Int} {d : Value}
end
section
variable {X : Cx} {x : Str} {p pos : Pos} {e : Expr} {es : List Expr} {t tk : TA} {id : String} {kws : List Keyword} {ks : List Str} {r : List V → List V → Hp → VK → Prop}
end
end L2

/-! ## texts: slices, names -/
namespace L2
open PySem PySem.Spec PyProof.Rows
section
variable {X : Cx}
/-- z[lo:hi] of a text -/
theorem sl_str : SlR X (fun x lo hi H Q => ∃ z, x = .str z ∧ z.length ≤ sizeLine ∧ Q (.str (Txt.slice z lo hi)) H) := by
  intro pins s σ H x v vl vu lo hi sl Q I rx hs pl pu h
  obtain ⟨z, rfl, hz, q⟩ := h
  obtain ⟨t, rfl⟩ := rx
  refine ⟨"str", _, F.slot_str_getitem.lookup, typeIs_str _ _ _, ?_⟩
  have fin : ∀ (t' : Tok) (k : Nat), EP X pins σ Q (.str (Txt.slice z lo hi) t') { s with toks := k } := fun t' k => ⟨.str _, H, I.tok k, ⟨t', rfl⟩, q⟩
  obtain ⟨o, ho, hc, hd⟩ := hs
  cases pl with
  | none =>
    cases pu with
    | none => exact wpAny_getItem_str_slice (l := none) (u := none) (st := none) ⟨o, ho, hc, hd⟩ rfl (post_val_or_str ⟨Nat.le_trans (Txt.slice_le z _ _) hz, fin⟩)
    | int j uj => exact wpAny_getItem_str_slice (l := none) (u := some (j, uj)) (st := none) ⟨o, ho, hc, hd⟩ rfl (post_val_or_str ⟨Nat.le_trans (Txt.slice_le z _ _) hz, fin⟩)
  | int i ui =>
    cases pu with
    | none => exact wpAny_getItem_str_slice (l := some (i, ui)) (u := none) (st := none) ⟨o, ho, hc, hd⟩ rfl (post_val_or_str ⟨Nat.le_trans (Txt.slice_le z _ _) hz, fin⟩)
    | int j uj => exact wpAny_getItem_str_slice (l := some (i, ui)) (u := some (j, uj)) (st := none) ⟨o, ho, hc, hd⟩ rfl (post_val_or_str ⟨Nat.le_trans (Txt.slice_le z _ _) hz, fin⟩)
end
end L2
namespace L2
open PySem PySem.Spec PyProof.Rows
section
variable {X : Cx}
theorem strs_of : ∀ {ys : List Str} {its : List Value}, Vals (ys.map V.str) its → StrsAre its ys
  | [], _, .nil => .nil
  | y :: ys, _, .cons r t => by
    obtain ⟨tk, rfl⟩ := (show ∃ t, _ = Value.str y t from r)
    exact .cons y tk (strs_of t)
/-- sep.join(xs) -/
theorem mt_join : MtR X "str.join" (fun x xs H Q => ∃ (z : Str) (p : Addr) (ys : List Str), x = .str z ∧ xs = [.ref p] ∧ SqL X.K H p (ys.map V.str) ∧ (ys.map (·.length)).sum + ys.length * z.length ≤ 16777216 ∧ Q (.str (Txt.join z ys)) H) := by
  intro pins s σ H x xs v us Q I rx rs h
  obtain ⟨z, p, ys, rfl, rfl, hq, hz, q⟩ := h
  obtain ⟨t, rfl⟩ := rx
  obtain ⟨u, rfl, ru⟩ := vals1 rs
  cases ru
  obtain ⟨its, r', pl, _⟩ := I.list hq
  exact join_list pl.isList (by simpa using strs_of r') hz fun t' k => ⟨.str _, H, I.tok k, ⟨t', rfl⟩, q⟩
end
end L2

/-! ## a def with defaults -/
namespace L2
open PySem PySem.Spec PyProof.Rows
structure FunD (K : PySem.W.Frag) (x qual : Str) (st : Stmt) (dV : Value) (f : Addr) (fd : FuncData) : Prop where
  ex : ∃ (oc : Value) (od : Option Addr) (kV doc pm : Value) (an : Option Addr) (cdv ct : Value) (osl : Array (Option Value)),
    fd = PySem.W.fnOf x qual (defArgs st) (defBody st) (defScope st) dV kV doc pm an cdv ct ∧ K.lookup f = some ⟨oc, od, .func fd, osl⟩ ∧ PySem.W.codeIn K cdv qual = true
  kp : PySem.W.keepIn K (.ref f) = true
/-- .. in one hand -/
structure DvD (K : PySem.W.Frag) (mg : Str → Option Value) (x : Str) (st : Stmt) (ps : List Str) (dvs : List V) where
  f : Addr
  fd : FuncData
  dV : Value
  ds : List Value
  F : FunD K x x st dV f fd
  b : Binds K fd ps []
  bd : Binds K fd ps ds
  vd : Vals dvs ds
  m : mg x = some (.ref f)
end L2
namespace L2
open PySem PySem.Spec PyProof.Rows
/-! ### range(a, b, c), c written and positive -/
section
variable {X : Cx} {tg : Expr}
end
end L2
namespace L2
open PySem PySem.Spec PyProof.Rows
/-- a row of written texts -/
inductive StrEs : List Expr → List Str → Prop where
  | nil : StrEs [] []
  | cons {x : Str} {j : Nat} {pos : Pos} {es : List Expr} {xs : List Str} : StrEs es xs → StrEs (.Constant (.str x) j pos :: es) (x :: xs)
end L2

/-! ## more rules: insert, a list taken apart, a comprehension with a test, == of lists of lists -/
namespace L2
open PySem PySem.Spec PyProof.Rows
section
variable {X : Cx}
theorem ix_tupK {K : PySem.W.Frag} (h : X.K = K) : IxR X (rIxT K) := h ▸ ix_tup
/-! ### == and != of what is made of lists, tuples and flat things, by levels -/
inductive EqH (K : PySem.W.Frag) (H : Hp) : Nat → V → V → Bool → Prop
  | flat {n x y} : flatV x = true → flatV y = true → EqH K H n x y (eqV x y)
  | same {n a} : EqH K H n (.ref a) (.ref a) true
  | lst {n a b xs ys} (e : Nat → Bool) : a ≠ b → SqL K H a xs → SqL K H b ys → xs.length = ys.length → (∀ j, j < xs.length → EqH K H n (xs.getD j .non) (ys.getD j .non) (e j)) → EqH K H (n + 1) (.ref a) (.ref b) ((List.range xs.length).all e)
  | lstN {n a b xs ys} : a ≠ b → SqL K H a xs → SqL K H b ys → xs.length ≠ ys.length → EqH K H (n + 1) (.ref a) (.ref b) false
  | tup {n a b xs ys} (e : Nat → Bool) : a ≠ b → SqT K H a xs → SqT K H b ys → xs.length = ys.length → (∀ j, j < xs.length → EqH K H n (xs.getD j .non) (ys.getD j .non) (e j)) → EqH K H (n + 1) (.ref a) (.ref b) ((List.range xs.length).all e)
end
/-- a comprehension over a list of known things, with a test -/
theorem comp_map {K : PySem.W.Frag} {α : Type} {a : Addr} {ps : List α} {r : α → V} {k : Nat} {g : TG} {tf : TT} {te : TE} {σ : St} {H : Hp} {Q : VK} (p : α → Bool) (f : α → V) (hq : SqL K H a (ps.map r)) (hl : ps.length ≤ sizeLine)
    (hs : ∀ x H', x ∈ ps → Same H H' → ∀ (R : V → Hp → Prop) (R0 : Hp → Prop), (p x = true → ∀ H2, Same H' H2 → R (f x) H2) → (p x = false → ∀ H2, Same H' H2 → R0 H2) →
      g (r x) (List.replicate k none ++ σ) H' fun σ4 H4 => σ4.drop k = σ ∧ tf σ4 H4 fun b H5 => if b = true then te σ4 H5 R else R0 H5)
    (hd : ∀ H', Same H H' → NewL Q ((ps.filter p).map f) H') :
    ∃ W : Nat → Nat → List V → Hp → Prop, (∃ m, W 0 m [] H) ∧ ∀ i m ys H2, W i m ys H2 →
      ((Itl K a).stop i H2 ∧ NewL Q ys H2) ∨
      ((Itl K a).go i H2 ∧ ys.length < sizeLine ∧ ∀ x H3, (Itl K a).yld i H2 x H3 → g x (List.replicate k none ++ σ) H3 fun σ4 H4 => σ4.drop k = σ ∧ tf σ4 H4 fun b H5 =>
        if b = true then te σ4 H5 fun y H6 => ∃ m', m' < m ∧ W (i + 1) m' (ys ++ [y]) H6 else ∃ m', m' < m ∧ W (i + 1) m' ys H5) := by
  refine ⟨fun i m ys H2 => m = ps.length - i ∧ i ≤ ps.length ∧ ys = ((ps.take i).filter p).map f ∧ Same H H2, ⟨ps.length, by simp, Nat.zero_le _, rfl, Same.refl H⟩, ?_⟩
  rintro i m ys H2 ⟨rfl, hi, rfl, sm⟩
  have q2 : SqL K H2 a (ps.map r) := sm.seq hq
  by_cases hlt : i < ps.length
  · refine .inr ⟨⟨ps.map r, r ps[i], q2, by simp [hlt]⟩, ?_, fun x H3 y => ?_⟩
    · rw [List.length_map]
      have := List.length_filter_le p (ps.take i)
      rw [List.length_take] at this
      omega
    · obtain ⟨e, y⟩ := y
      subst e
      have ex : (ps.map r)[i]? = some x := y _ q2
      have ei : ps[i]? = some ps[i] := by simp [hlt]
      have exr : x = r ps[i] := by rw [List.getElem?_map, ei] at ex; exact (Option.some.inj ex).symm
      subst exr
      have tk : ps.take (i + 1) = ps.take i ++ [ps[i]] := by rw [List.take_add_one, ei]; rfl
      refine hs ps[i] _ (List.getElem_mem hlt) sm _ _ (fun hp H4 s4 => ?_) (fun hp H4 s4 => ?_)
      · refine ⟨ps.length - (i + 1), by omega, rfl, hlt, ?_, sm.trans s4⟩
        rw [tk, List.filter_append, List.map_append]
        simp [hp]
      · refine ⟨ps.length - (i + 1), by omega, rfl, hlt, ?_, sm.trans s4⟩
        rw [tk, List.filter_append, List.map_append]
        simp [hp]
  · have e : i = ps.length := by omega
    subst e
    refine .inl ⟨⟨ps.map r, q2, by simp⟩, ?_⟩
    rw [List.take_length]
    exact hd H2 sm
/-! ### the heap, where a list that is not yet of the start is written -/
theorem same_updN {H H1 : Hp} {p : Addr} {u : HO} (h : Same H H1) (hp : H p = none) : Same H (upd H1 p u) := fun b o e => by
  have hne : b ≠ p := fun z => by rw [z, hp] at e; cases e
  rw [upd_ne hne]
  exact h b o e
theorem upd_tup {H : Hp} {a p : Addr} {l : List V} {xs : List V} {u : HO} (h : H a = some (.tup l)) (hp : H p = some (.lst xs)) : upd H p u a = some (.tup l) := by
  have hne : a ≠ p := fun z => by rw [z, hp] at h; cases h
  rw [upd_ne hne]
  exact h
theorem upd_oth {H : Hp} {a p : Addr} {o u : HO} (h : H a = some o) (hne : a ≠ p) : upd H p u a = some o := by rw [upd_ne hne]; exact h
end L2

/-! ## comprehensions whose target is several names -/
namespace L2
open PySem PySem.Spec PyProof.Rows
/-- what the block of several names is asked, all of it read off the text -/
structure LcT (N M : List Str) (sc scope : Scope) (ts : List Str) : Prop where
  nd : (ts ++ M).Nodup
  kind : scope.kind = .function
  cell : (scope.names.all fun y => decide (y.2 ≠ .cell)) = true
  loc : (scope.names.all fun y => decide (y.2 = .local → scope.names.lookup y.1 = some .local)) = true
  free : (scope.names.all fun p => decide (p.2 = .free → sc.names.lookup p.1 = some .cell ∨ sc.names.lookup p.1 = some .free)) = true
  len : M.length = N.length
  apart : ((M.zip N).all fun y => decide (scope.names.lookup y.1 = none ∨ (y.2 = y.1 ∧ scope.names.lookup y.1 ≠ some .local))) = true
section
variable {X : Cx} {N M : List Str} {sc scope : Scope} {ts : List Str} {tg : Expr} {pos : Pos} {elt iter : Expr} {ifs : List Expr} {wi : TI} {g : TG} {tf : TT} {te : TE}
theorem LcT.ok (L : LcT N M sc scope ts) (eN : X.N = N) (es : X.env.scope = sc) : BlkOk X ts M scope := by
  subst eN es
  refine ⟨L.kind, fun y hy => of_decide_eq_true (List.all_eq_true.mp L.cell y hy), fun y hy => of_decide_eq_true (List.all_eq_true.mp L.loc y hy), fun y hy => of_decide_eq_true (List.all_eq_true.mp L.free y hy), L.len, fun i y hy => ?_⟩
  have hi : i < M.length := (List.getElem?_eq_some_iff.mp hy).1
  have hi2 : i < X.N.length := by rw [← L.len]; exact hi
  have hz : (M.zip X.N)[i]? = some (y, X.N[i]) := by rw [List.getElem?_zip_eq_some]; exact ⟨hy, List.getElem?_eq_getElem hi2⟩
  rcases of_decide_eq_true (List.all_eq_true.mp L.apart _ (List.mem_of_getElem? hz)) with z | ⟨z1, z2⟩
  · exact .inl z
  · exact .inr ⟨by rw [List.getElem?_eq_getElem hi2]; exact congrArg some z1, z2⟩
/-- one of the names, as a target in the block -/
theorem LcT.nm (L : LcT N M sc scope ts) (eN : X.N = N) (i : Nat) {x : Str} {px : Pos} (hx : ts[i]? = some x) (own : scope.names.lookup x = some .local) (cl : List (Str × Addr)) (C : Addr) (fp : List Addr) (s : Shared) (H : Hp) : PG (X.blk ts M scope cl C fp s H) (.Name x px) (gName i) :=
  pg_name (X := X.blk ts M scope cl C fp s H) (i := i) (by show (ts ++ M).Nodup; exact L.nd)
    (by show (ts ++ M)[i]? = some x
        have hi : i < ts.length := (List.getElem?_eq_some_iff.mp hx).1
        rw [List.getElem?_append_left hi]; exact hx) (.inl (lookup_relabel_local own)) (.inr (lookup_relabel_local own))
theorem ps_lcT {i : Nat} {y : Str} {py spos : Pos} (hN : X.N.Nodup) (hy : X.N[i]? = some y) (hk : X.env.kindOf y = some .local) (L : LcT N M sc scope ts) (eN : X.N = N) (es : X.env.scope = sc) (hc : X.calm = true) (hi : PI X tg iter wi)
    (hg : LcT N M sc scope ts → ∀ cl C fp s H, PG (X.blk ts M scope cl C fp s H) tg g) (hif : ∀ cl C fp s H, PIf (X.blk ts M scope cl C fp s H) ifs tf) (he : ∀ cl C fp s H, PE (X.blk ts M scope cl C fp s H) elt te)
    (hsw : swapsWith (.ListComp elt [⟨tg, iter, ifs, 0⟩] scope pos) (some (.Name y py)) spos.line X.env = pure true := by with_unfolding_all rfl) (hs : ∀ x, foldedSetIterable iter X.env x = pure x := by intro _; rfl) :
    PS X (.Assign [.Name y py] (.ListComp elt [⟨tg, iter, ifs, 0⟩] scope pos) spos) (tAsg (tComp ts.length wi g tf te) (gName i)) :=
  ps_lcG (ts := ts) (M := M) hN hy hk (L.ok eN es) hc hi (hg L) hif he hsw hs
end
theorem hu1 {n : Nat} (h : n + 64 < cLine) : n + 1 < cLine := by omega
/-- a comprehension over a list of known things, each turned into a value -/
theorem comp_all {K : PySem.W.Frag} {α : Type} {a : Addr} {ps : List α} {r : α → V} {k : Nat} {g : TG} {te : TE} {σ : St} {H : Hp} {Q : VK} (f : α → V) (hq : SqL K H a (ps.map r)) (hl : ps.length ≤ sizeLine)
    (hs : ∀ x H', x ∈ ps → Same H H' → ∀ (R : V → Hp → Prop), (∀ H2, Same H' H2 → R (f x) H2) → g (r x) (List.replicate k none ++ σ) H' fun σ4 H4 => σ4.drop k = σ ∧ te σ4 H4 R)
    (hd : ∀ H', Same H H' → NewL Q (ps.map f) H') :
    ∃ W : Nat → Nat → List V → Hp → Prop, (∃ m, W 0 m [] H) ∧ ∀ i m ys H2, W i m ys H2 →
      ((Itl K a).stop i H2 ∧ NewL Q ys H2) ∨
      ((Itl K a).go i H2 ∧ ys.length < sizeLine ∧ ∀ x H3, (Itl K a).yld i H2 x H3 → g x (List.replicate k none ++ σ) H3 fun σ4 H4 => σ4.drop k = σ ∧ tYes σ4 H4 fun b H5 =>
        if b = true then te σ4 H5 fun y H6 => ∃ m', m' < m ∧ W (i + 1) m' (ys ++ [y]) H6 else ∃ m', m' < m ∧ W (i + 1) m' ys H5) := by
  refine ⟨fun i m ys H2 => m = ps.length - i ∧ i ≤ ps.length ∧ ys = (ps.take i).map f ∧ Same H H2, ⟨ps.length, by simp, Nat.zero_le _, rfl, Same.refl H⟩, ?_⟩
  rintro i m ys H2 ⟨rfl, hi, rfl, sm⟩
  have q2 : SqL K H2 a (ps.map r) := sm.seq hq
  by_cases hlt : i < ps.length
  · refine .inr ⟨⟨ps.map r, r ps[i], q2, by simp [hlt]⟩, ?_, fun x H3 y => ?_⟩
    · rw [List.length_map, List.length_take]; omega
    · obtain ⟨e, y⟩ := y
      subst e
      have ex : (ps.map r)[i]? = some x := y _ q2
      have ei : ps[i]? = some ps[i] := by simp [hlt]
      have exr : x = r ps[i] := by rw [List.getElem?_map, ei] at ex; exact (Option.some.inj ex).symm
      subst exr
      refine hs ps[i] _ (List.getElem_mem hlt) sm _ fun H4 s4 => ?_
      refine ⟨ps.length - (i + 1), by omega, rfl, hlt, ?_, sm.trans s4⟩
      rw [List.take_add_one, ei, List.map_append]
      rfl
  · have e : i = ps.length := by omega
    subst e
    refine .inl ⟨⟨ps.map r, q2, by simp⟩, ?_⟩
    rw [List.take_length]
    exact hd H2 sm
end L2


namespace L2
open PySem PySem.Spec PyProof.Rows

end L2

namespace L2
open PySem PySem.Spec PyProof.Rows

section
variable (P : Program) (w : World)
end

section
variable {P : Program} {w : World} {H H' : Hp} {h h' : Heap} {a : Addr} {o : HO}
end

section
variable {P : Program} {w : World} {H : Hp} {h h' : Heap} {x e : Addr} {o' : HO}
end


section
variable {fs fs' ex ex' : List Addr} {H H1 H2 : Hp} {h h1 h2 h' : Heap} {a x e : Addr} {o : HO}
end


end L2

namespace L2
open PySem PySem.Spec PyProof.Rows

section
variable {X : Cx} {pins : List (Addr × Obj)} {σ : List (Option V)} {H H' : Hp} {s : Shared} {h' : Heap}

end


end L2

namespace L2
open PySem PySem.Spec PyProof.Rows
section
variable {X : Cx}

variable {a b : Expr} {ta tb : TE} {pos : Pos}
variable {tA tB' : TT} {rest : List Expr}
end
end L2

namespace L2
open PySem PySem.Spec PyProof.Rows


section
variable {X : Cx} {pins : List (Addr × Obj)} {σ : St} {H : Hp} {s : Shared} {a : Addr} {xs ys : List V}
end


section
variable {X : Cx} {pins : List (Addr × Obj)} {σ : St} {H : Hp} {s : Shared} {E : Value → Shared → Prop}
end


section
variable {X : Cx} {st : Stmt} {rest : List Stmt} {t u : TS} {e : Expr} {te : TE} {pos : Pos}
end


section
variable {X : Cx} {pos : Pos}
end


section
variable {X : Cx} {pos : Pos}
end


end L2

namespace L2
open PySem PySem.Spec PyProof.Rows
section
variable {X : Cx} {tg : Expr}
end


end L2

namespace L2
open PySem PySem.Spec PyProof.Rows

section
variable {X : Cx} {a b c : Expr} {ta tb tc : TE} {pos : Pos}

end


section
variable {X : Cx} {a b c : Expr} {ta tb tc : TE} {pos : Pos}
end
end L2

namespace L2
open PySem PySem.Spec PyProof.Rows


section
variable {prog : Program} {w : World} {A : Around} {E : Value → Shared → Prop} {s : Shared} {K : PySem.W.Frag} {x dx C f : Addr} {mA : Str → Option Value} {name : Str} {v : Value}

end


section
variable {P : Program} {w : World} {H H' : Hp} {h h' : Heap} {a C dx : Addr} {fs fs' : List (Str × V)}
end


section
variable {X : Cx} {pins : List (Addr × Obj)} {σ : St} {H : Hp} {s : Shared} {a C dx : Addr} {fs : List (Str × V)} {f : Str} {v : V} {A : Around} {E : Value → Shared → Prop}

end


section
variable {X : Cx} {o e value : Expr} {f : Str} {pos pos' tpos : Pos} {ta tv : TE}
end


section
variable {X : Cx} {pins : List (Addr × Obj)} {σ : St} {H : Hp} {s : Shared} {A : Around} {E : Value → Shared → Prop} {Q : Value → Shared → Prop} {c : Value} {b : Bool}
end
end L2

namespace L2
open PySem PySem.Spec PyProof.Rows


section
variable {X : Cx} {e : Expr} {es : List Expr} {te : TE} {t : TA} {pos : Pos}
end


section
variable {X : Cx} {pins : List (Addr × Obj)} {σ : St} {H : Hp} {s s' : Shared}
end


section
variable {X : Cx} {CX : CXT} {k : Nat} {f C : Addr} {fd : FuncData} {ps : List Str} {sp : Sp} {dvs : List V} {ds : List Value} {E : XK} {x m : Str} {p pos apos : Pos} {e o : Expr} {es : List Expr} {ta : TE} {t : TA}

end


section
variable {X : Cx} {CX : CXT} {k : Nat} {f C : Addr} {fd : FuncData} {ps ks : List Str} {sp : Sp} {E : XK} {x m : Str} {p pos apos kpos : Pos} {e o : Expr} {es : List Expr} {kws : List Keyword} {te ta : TE} {t tk : TA} {nm : Option Str}
variable {g : List Value → List Value → List Value} {gV : List V → List V → List V}
end


end L2

namespace L2
open PySem PySem.Spec PyProof.Rows
section
variable {X : Cx} {x : Str} {p pos : Pos} {e : Expr} {es : List Expr} {t : TA} {id T : String} {r : List V → Hp → VK → Prop}

end
end L2

namespace L2
open PySem PySem.Spec PyProof.Rows


section
variable {κ : Type} [DecidableEq κ]
def valV (kvs : List (κ × V)) (k : κ) : Option V := (kvs.find? fun kv => decide (kv.1 = k)).map (·.2)
/-- in its place, or at the end -/
def putK (kvs : List (κ × V)) (k : κ) (v : V) : List (κ × V) :=
  if (kvs.any fun kv => decide (kv.1 = k)) = true then kvs.map (fun kv => if kv.1 = k then (kv.1, v) else kv) else kvs ++ [(k, v)]
def dropK (kvs : List (κ × V)) (k : κ) : List (κ × V) := kvs.filter fun kv => decide (kv.1 ≠ k)

theorem valV_pos {p : κ × V} {r : List (κ × V)} {k : κ} (e : p.1 = k) : valV (p :: r) k = some p.2 := by simp [valV, List.find?_cons, e]
theorem valV_neg {p : κ × V} {r : List (κ × V)} {k : κ} (e : ¬ p.1 = k) : valV (p :: r) k = valV r k := by simp [valV, List.find?_cons, e]
theorem valV_any (k : κ) : ∀ kvs : List (κ × V), (kvs.any fun kv => decide (kv.1 = k)) = (valV kvs k).isSome
  | [] => rfl
  | p :: r => by
    rw [List.any_cons]
    by_cases e : p.1 = k
    · simp only [valV_pos e, decide_eq_true e, Bool.true_or, Option.isSome_some]
    · rw [valV_neg e, decide_eq_false e, Bool.false_or]; exact valV_any k r
theorem valV_map (k j : κ) (y : V) : ∀ kvs : List (κ × V), valV (kvs.map fun kv => if kv.1 = k then (kv.1, y) else kv) j = (valV kvs j).map fun x => if j = k then y else x
  | [] => rfl
  | p :: r => by
    have ih := valV_map k j y r
    rw [List.map_cons]
    by_cases h : p.1 = k
    · rw [if_pos h]
      by_cases e : p.1 = j
      · rw [valV_pos (p := (p.1, y)) e, valV_pos e, Option.map_some, if_pos (e.symm.trans h)]
      · rw [valV_neg (p := (p.1, y)) e, valV_neg e, ih]
    · rw [if_neg h]
      by_cases e : p.1 = j
      · rw [valV_pos (p := p) e, valV_pos e, Option.map_some, if_neg (fun z => h (e.trans z))]
      · rw [valV_neg (p := p) e, valV_neg e, ih]
theorem valV_snoc (k j : κ) (y : V) : ∀ kvs : List (κ × V), valV kvs k = none → valV (kvs ++ [(k, y)]) j = if j = k then some y else valV kvs j
  | [], _ => by
    by_cases e : k = j
    · rw [if_pos e.symm]; exact valV_pos (p := (k, y)) e
    · rw [if_neg (fun z => e z.symm)]; exact valV_neg (p := (k, y)) e
  | p :: r, hn => by
    rw [List.cons_append]
    have hk : ¬ p.1 = k := fun z => by rw [valV_pos z] at hn; cases hn
    rw [valV_neg hk] at hn
    have ih := valV_snoc k j y r hn
    by_cases e : p.1 = j
    · rw [valV_pos e, valV_pos e, if_neg (fun z => hk (e.trans z))]
    · rw [valV_neg e, valV_neg e, ih]
theorem valV_put (kvs : List (κ × V)) (k j : κ) (y : V) : valV (putK kvs k y) j = if j = k then some y else valV kvs j := by
  unfold putK
  by_cases a : (kvs.any fun kv => decide (kv.1 = k)) = true
  · rw [if_pos a, valV_map]
    rw [valV_any] at a
    by_cases e : j = k
    · obtain ⟨x, hx⟩ := Option.isSome_iff_exists.mp a
      rw [if_pos e, e, hx, Option.map_some, if_pos rfl]
    · rw [if_neg e]
      cases valV kvs j with
      | none => rfl
      | some x => rw [Option.map_some, if_neg e]
  · rw [if_neg a]
    refine valV_snoc k j y kvs ?_
    rw [valV_any] at a
    cases q : valV kvs k with
    | none => rfl
    | some x => rw [q] at a; exact (a rfl).elim
theorem length_putK (kvs : List (κ × V)) (k : κ) (v : V) : (putK kvs k v).length ≤ kvs.length + 1 := by
  unfold putK
  split
  · rw [List.length_map]; omega
  · rw [List.length_append, List.length_cons, List.length_nil]; omega
theorem RelO.isSome_eq {o : Option V} {u : Option Value} (r : RelO o u) : o.isSome = u.isSome := by
  cases o with
  | none => cases u with
    | none => rfl
    | some _ => exact (show False from r).elim
  | some _ => cases u with
    | none => exact (show False from r).elim
    | some _ => rfl
theorem RelO.getD {o : Option V} {u : Option Value} {d : V} {d' : Value} (r : RelO o u) (rd : RelV d d') : RelV (o.getD d) (u.getD d') := by
  cases o with
  | none => cases u with
    | none => exact rd
    | some _ => exact (show False from r).elim
  | some _ => cases u with
    | none => exact (show False from r).elim
    | some _ => exact r

/-- raw tables of the same keys -/
theorem KV.val {kvs : List (κ × V)} {vs : List (κ × Value)} (r : KV kvs vs) (k : κ) : RelO (valV kvs k) (valueAt vs k) := by
  unfold KV at r
  induction r with
  | nil => exact True.intro
  | @cons p q ps qs h t ih =>
    obtain ⟨h1, h2⟩ := h
    by_cases e : p.1 = k
    · have e' : q.1 = k := h1.symm.trans e
      have b : valueAt (q :: qs) k = some q.2 := by simp [valueAt, List.find?_cons, e']
      rw [valV_pos e, b]; exact h2
    · have e' : ¬ q.1 = k := fun z => e (h1.trans z)
      have b : valueAt (q :: qs) k = valueAt qs k := by simp [valueAt, List.find?_cons, e']
      rw [valV_neg e, b]; exact ih
theorem KV.any {kvs : List (κ × V)} {vs : List (κ × Value)} (r : KV kvs vs) (k : κ) : (kvs.any fun kv => decide (kv.1 = k)) = vs.any fun kv => decide (kv.1 = k) := by
  unfold KV at r
  induction r with
  | nil => rfl
  | cons h t ih => rw [List.any_cons, List.any_cons, ih, h.1]
theorem KV.repl {kvs : List (κ × V)} {vs : List (κ × Value)} (r : KV kvs vs) (k : κ) {y : V} {u : Value} (ry : RelV y u) :
    KV (kvs.map fun kv => if kv.1 = k then (kv.1, y) else kv) (vs.map fun kv => if kv.1 = k then (kv.1, u) else kv) := by
  unfold KV at r ⊢
  induction r with
  | nil => exact .nil
  | @cons p q ps qs h t ih =>
    rw [List.map_cons, List.map_cons]
    refine .cons ?_ ih
    obtain ⟨h1, h2⟩ := h
    by_cases e : p.1 = k
    · rw [if_pos e, if_pos (h1.symm.trans e)]; exact ⟨h1, ry⟩
    · rw [if_neg e, if_neg (fun z => e (h1.trans z))]; exact ⟨h1, h2⟩
theorem KV.put {kvs : List (κ × V)} {vs : List (κ × Value)} (r : KV kvs vs) (k : κ) {y : V} {u : Value} (ry : RelV y u) : KV (putK kvs k y) (stored vs k u) := by
  unfold putK stored
  rw [r.any k]
  by_cases e : (vs.any fun kv => decide (kv.1 = k)) = true
  · rw [if_pos e, if_pos e]; exact r.repl k ry
  · rw [if_neg e, if_neg e]; exact Paired.snoc r ⟨rfl, ry⟩
theorem KV.drop {kvs : List (κ × V)} {vs : List (κ × Value)} (r : KV kvs vs) (k : κ) : KV (dropK kvs k) (without vs k) := by
  unfold KV at r ⊢
  unfold dropK without
  induction r with
  | nil => exact .nil
  | @cons p q ps qs h t ih =>
    obtain ⟨h1, h2⟩ := h
    rw [List.filter_cons, List.filter_cons]
    by_cases e : p.1 = k
    · have a : ¬ decide (p.1 ≠ k) = true := by simp [e]
      have b : ¬ decide (q.1 ≠ k) = true := by simp [h1.symm.trans e]
      rw [if_neg a, if_neg b]; exact ih
    · have e' : ¬ q.1 = k := fun z => e (h1.trans z)
      have a : decide (p.1 ≠ k) = true := by simp [e]
      have b : decide (q.1 ≠ k) = true := by simp [e']
      rw [if_pos a, if_pos b]; exact .cons ⟨h1, h2⟩ ih
theorem KV.length {kvs : List (κ × V)} {vs : List (κ × Value)} (r : KV kvs vs) : kvs.length = vs.length := Paired.length r
theorem dropK_le (kvs : List (κ × V)) (k : κ) : (dropK kvs k).length ≤ kvs.length := List.length_filter_le _ _
end



theorem kV_is {P : Program} {w : World} {k : Key} {u : Value} (r : RelV (kV k) u) : (mixKind P w).is k u = true := by
  cases k with
  | inl i => obtain ⟨t, e⟩ := (show ∃ t, u = Value.int i t from r); subst e; exact mixKind_int P w i t
  | inr x => obtain ⟨t, e⟩ := (show ∃ t, u = Value.str x t from r); subst e; exact mixKind_str P w x t
theorem items_are {P : Program} {w : World} : ∀ {ks : List Key} {us : List Value}, Vals (ks.map kV) us → ItemsAre (mixKind P w) ks us
  | [], _, r => by rw [List.map_nil] at r; cases r; exact .nil
  | k :: ks, _, r => by
    rw [List.map_cons] at r
    cases r with
    | cons h t => exact .cons (kV_is h) (items_are t)

/-- raw entries of a dict with tuple keys -/
abbrev KT (H : Hp) : List (List Key × V) → List (List Key × Addr × Value) → Prop := Paired fun p q => p.1 = q.1 ∧ H q.2.1 = some (.tup (p.1.map kV)) ∧ RelV p.2 q.2.2
theorem KT.val {H : Hp} {kvs : List (List Key × V)} {xs : List (List Key × Addr × Value)} (r : KT H kvs xs) (k : List Key) : RelO (valV kvs k) ((atKey xs k).map (·.2)) := by
  induction r with
  | nil => exact True.intro
  | @cons p q ps qs h t ih =>
    obtain ⟨h1, _, h2⟩ := h
    by_cases e : p.1 = k
    · have e' : q.1 = k := h1.symm.trans e
      have b : atKey (q :: qs) k = some q.2 := by simp [atKey, List.find?_cons, e']
      rw [valV_pos e, b]; exact h2
    · have e' : ¬ q.1 = k := fun z => e (h1.trans z)
      have b : atKey (q :: qs) k = atKey qs k := by simp [atKey, List.find?_cons, e']
      rw [valV_neg e, b]; exact ih
theorem KT.repl {H : Hp} {kvs : List (List Key × V)} {xs : List (List Key × Addr × Value)} (r : KT H kvs xs) (k : List Key) {y : V} {u : Value} (ry : RelV y u) :
    KT H (kvs.map fun kv => if kv.1 = k then (kv.1, y) else kv) (xs.map (putAt k u)) := by
  induction r with
  | nil => exact .nil
  | @cons p q ps qs h t ih =>
    rw [List.map_cons, List.map_cons]
    refine .cons ?_ ih
    obtain ⟨h1, h2, h3⟩ := h
    unfold putAt
    by_cases e : p.1 = k
    · rw [if_pos e, if_pos (h1.symm.trans e)]; exact ⟨h1, h2, ry⟩
    · rw [if_neg e, if_neg (fun z => e (h1.trans z))]; exact ⟨h1, h2, h3⟩
theorem KT.put {H : Hp} {kvs : List (List Key × V)} {xs : List (List Key × Addr × Value)} (r : KT H kvs xs) (k : List Key) {b : Addr} {y : V} {u : Value} (hb : H b = some (.tup (k.map kV))) (ry : RelV y u) :
    KT H (putK kvs k y) (storedH xs k b u) := by
  have e : (kvs.any fun kv => decide (kv.1 = k)) = (atKey xs k).isSome := by
    rw [valV_any, (r.val k).isSome_eq, Option.isSome_map]
  unfold putK storedH
  rw [e]
  by_cases q : (atKey xs k).isSome = true
  · rw [if_pos q, if_pos q]; exact r.repl k ry
  · rw [if_neg q, if_neg q]; exact Paired.snoc r ⟨rfl, hb, ry⟩
theorem KT.keeps {H H' : Hp} {kvs : List (List Key × V)} {xs : List (List Key × Addr × Value)} (r : KT H kvs xs) (ht : ∀ b ys, H b = some (.tup ys) → H' b = some (.tup ys)) : KT H' kvs xs :=
  Paired.mapP r fun _ _ z => ⟨z.1, ht _ _ z.2.1, z.2.2⟩

section
variable {P : Program} {w : World} {H : Hp} {h : Heap} {a : Addr}
theorem rd_of {u : HO} (ok : HOk P w H h) (e : Rd H a u) : ObjOk P w H h a u := e.ok ok
theorem dk_rd {kvs : List (Key × V)} (ok : HOk P w H h) (e : Rd H a (.dK kvs)) : kvs.length ≤ sizeLine ∧ (a == sysModules) = false ∧ ∃ vs, KV kvs vs ∧ h.DictOf (mixKind P w) a vs :=
  show ObjOk P w H h a (.dK kvs) from rd_of ok e
theorem dk_of {kvs : List (Key × V)} (ok : HOk P w H h) (e : H a = some (.dK kvs)) : kvs.length ≤ sizeLine ∧ (a == sysModules) = false ∧ ∃ vs, KV kvs vs ∧ h.DictOf (mixKind P w) a vs := dk_rd ok (.inl e)
/-- a tracked tuple of ints and texts is a key -/
theorem key_of {ks : List Key} (ok : HOk P w H h) (e : H a = some (.tup (ks.map kV))) : (tupleKind (mixKind P w)).is h ks a := by
  obtain ⟨_, its, r, o, h1, h2, n, h3⟩ := (show ObjOk P w H h a (.tup (ks.map kV)) from ok a _ e)
  exact ⟨o, its.toArray, n, h1, h2, h3, by simpa using items_are r⟩
theorem dt_rd {kvs : List (List Key × V)} (ok : HOk P w H h) (e : Rd H a (.dT kvs)) : kvs.length ≤ sizeLine ∧ (a == sysModules) = false ∧
    ∃ xs, KT H kvs xs ∧ h.DictOfH (tupleKind (mixKind P w)) a xs := by
  obtain ⟨z, y, xs, r, o, es, ep, h1, h2, h3, h4, h5⟩ := (show ObjOk P w H h a (.dT kvs) from rd_of ok e)
  refine ⟨z, y, xs, r, o, es, ep, h1, h2, h3, h4, fun x hx => ?_, h5⟩
  have all : ∀ {l : List (List Key × V)} {m : List (List Key × Addr × Value)}, KT H l m → ∀ x ∈ m, (tupleKind (mixKind P w)).is h x.1 x.2.1 := by
    intro l m q
    induction q with
    | nil => intro x hx; exact nomatch hx
    | @cons p q ps qs hq t ih =>
      intro x hx
      rcases List.mem_cons.mp hx with e | hx
      · subst e
        exact key_of ok (by rw [← hq.1]; exact hq.2.1)
      · exact ih x hx
  exact all r x hx
theorem dt_of {kvs : List (List Key × V)} (ok : HOk P w H h) (e : H a = some (.dT kvs)) : kvs.length ≤ sizeLine ∧ (a == sysModules) = false ∧
    ∃ xs, KT H kvs xs ∧ h.DictOfH (tupleKind (mixKind P w)) a xs := dt_rd ok (.inl e)
end

/-- what the dict at a holds at the key y -/
def DGet (H : Hp) (a : Addr) (y : V) (r : Option V) : Prop :=
  (∃ kvs k, Rd H a (.dK kvs) ∧ y = kV k ∧ r = valV kvs k) ∨ ∃ kvs k b, Rd H a (.dT kvs) ∧ y = .ref b ∧ H b = some (.tup (k.map kV)) ∧ r = valV kvs k
/-- the heap behind a[y] = v -/
def DPut (H : Hp) (a : Addr) (y v : V) (H' : Hp) : Prop :=
  (∃ kvs k, H a = some (.dK kvs) ∧ y = kV k ∧ kvs.length < sizeLine ∧ H' = upd H a (.dK (putK kvs k v))) ∨
  ∃ kvs k b, H a = some (.dT kvs) ∧ y = .ref b ∧ H b = some (.tup (k.map kV)) ∧ kvs.length < sizeLine ∧ H' = upd H a (.dT (putK kvs k v))
theorem DGet.k {H : Hp} {a : Addr} {kvs : List (Key × V)} {k : Key} (e : H a = some (.dK kvs)) : DGet H a (kV k) (valV kvs k) := .inl ⟨kvs, k, .inl e, rfl, rfl⟩
theorem DPut.k {H : Hp} {a : Addr} {kvs : List (Key × V)} {k : Key} {v : V} (e : H a = some (.dK kvs)) (hl : kvs.length < sizeLine) : DPut H a (kV k) v (upd H a (.dK (putK kvs k v))) := .inl ⟨kvs, k, e, rfl, hl, rfl⟩
section
variable {X : Cx} {pins : List (Addr × Obj)} {σ : St} {H : Hp} {s : Shared} {a : Addr} {y v : V} {u r : Value} {o : Option V} {A : Around} {E : Value → Shared → Prop}

theorem Inv.big (I : Inv X pins σ H s) : sysModules < s.heap.objs.size := by
  have h : mainGlobals < s.heap.objs.size := (I.mod.glob.keeps I.bk).lt
  exact Nat.lt_trans (by decide) h

/-- y in d -/
theorem d_in {Q : Value → Shared → Prop} (hu : A.units + 1 < cLine) (I : Inv X pins σ H s) (g : DGet H a y o) (ry : RelV y u) (h : ∀ s', Inv X pins σ H s' → Q (.bool o.isSome) s') :
    wpAny (model X.prog X.w) A (compareOp .In u (.ref a)) Q E s := by
  rcases g with ⟨kvs, k, e, ey, l⟩ | ⟨kvs, k, b, e, ey, eb, l⟩
  · subst ey
    obtain ⟨z, hd, vs, rel, dd⟩ := dk_rd I.hok e
    refine wpAny_in_of (kV_is ry) hd dd.mapOf ?_
    rw [← (rel.val k).isSome_eq, ← l]
    exact h _ (I.tok _)
  · subst ey
    cases (show u = Value.ref b from ry)
    obtain ⟨z, hd, xs, rel, dd⟩ := dt_rd I.hok e
    refine wpAny_in_heap (tupleKind_room_in1 hu) (key_of I.hok eb) hd dd ?_
    have q := (rel.val k).isSome_eq
    rw [Option.isSome_map] at q
    rw [← q, ← l]
    exact h _ (I.tok _)
theorem d_notIn {Q : Value → Shared → Prop} (hu : A.units + 1 < cLine) (I : Inv X pins σ H s) (g : DGet H a y o) (ry : RelV y u) (h : ∀ s', Inv X pins σ H s' → Q (.bool (!o.isSome)) s') :
    wpAny (model X.prog X.w) A (compareOp .NotIn u (.ref a)) Q E s := by
  rcases g with ⟨kvs, k, e, ey, l⟩ | ⟨kvs, k, b, e, ey, eb, l⟩
  · subst ey
    obtain ⟨z, hd, vs, rel, dd⟩ := dk_rd I.hok e
    refine wpAny_notIn_of (kV_is ry) hd dd.mapOf ?_
    rw [← (rel.val k).isSome_eq, ← l]
    exact h _ (I.tok _)
  · subst ey
    cases (show u = Value.ref b from ry)
    obtain ⟨z, hd, xs, rel, dd⟩ := dt_rd I.hok e
    refine wpAny_notIn_heap (tupleKind_room_in1 hu) (key_of I.hok eb) hd dd ?_
    have q := (rel.val k).isSome_eq
    rw [Option.isSome_map] at q
    rw [← q, ← l]
    exact h _ (I.tok _)
/-- a dict's object is replaced -/
theorem d_write {h' : Heap} {t' : Nat} {ob : HO} (I : Inv X pins σ H s) (mu : Mut (H a)) (hs : Heap.SameBut a s.heap h') (he : ∃ q, h'.get? a = some q) (new : ObjOk X.prog X.w (upd H a ob) h' a ob) :
    Inv X pins σ (upd H a ob) { s with heap := h', toks := t' } :=
  I.write (x := a) (e := a) mu (.inl rfl) (fun b q hb z => (hs.2 b hb).trans z) he new
theorem dk_new {P : Program} {w : World} {H' : Hp} {h' : Heap} {kvs : List (Key × V)} {vs : List (Key × Value)} (z : kvs.length ≤ sizeLine) (hd : (a == sysModules) = false) (rel : KV kvs vs) (dd : h'.DictOf (mixKind P w) a vs) :
    ObjOk P w H' h' a (.dK kvs) := ⟨z, hd, vs, rel, dd⟩
/-- d[y] = v -/
theorem d_setItem {H' : Hp} {Q : Unit → Shared → Prop} (hu : A.units + 1 < cLine) (I : Inv X pins σ H s) (g : DPut H a y v H') (ry : RelV y u) (rv : RelV v r) (h : ∀ s', Inv X pins σ H' s' → Q () s') :
    wpAny (model X.prog X.w) A (setItem (.ref a) u r) Q E s := by
  rcases g with ⟨kvs, k, e, ey, l, eH⟩ | ⟨kvs, k, b, e, ey, eb, l, eH⟩
  · subst ey eH
    obtain ⟨z, hd, vs, rel, dd⟩ := dk_of I.hok e
    have hz : vs.length ≤ sizeLine := by rw [← rel.length]; exact z
    have hl : (putK kvs k v).length ≤ sizeLine := by have := length_putK kvs k v; omega
    refine wpAny_setItem_pairs (hsz := hz) (kV_is ry) dd fun h' dd' hs => h _ ?_
    have he : ∃ q, h'.get? a = some q := let ⟨q, _, _, hq, _⟩ := dd'; ⟨q, hq⟩
    exact d_write I (by rw [e]; exact True.intro) hs he (dk_new hl hd (rel.put k rv) dd')
  · subst ey eH
    cases (show u = Value.ref b from ry)
    obtain ⟨z, hd, xs, rel, dd⟩ := dt_of I.hok e
    have hz : xs.length ≤ sizeLine := by rw [← Paired.length rel]; exact z
    have hl : (putK kvs k v).length ≤ sizeLine := by have := length_putK kvs k v; omega
    refine wpAny_setItem_heap (hsz := hz) (tupleKind_room_in1 hu) (key_of I.hok eb) dd fun h' dd' hs => h _ ?_
    obtain ⟨q, es, ep, hq, h2, h3, h4, _, h5⟩ := dd'
    refine d_write I (by rw [e]; exact True.intro) hs ⟨q, hq⟩ ⟨hl, hd, _, (rel.put k eb rv).keeps fun c ys ec => ?_, q, es, ep, hq, h2, h3, h4, h5⟩
    rw [upd_ne (ne_of ec e (fun z => nomatch z))]
    exact ec
end

section
variable {X : Cx} {pins : List (Addr × Obj)} {σ : St} {H : Hp} {s : Shared} {a : Addr} {kvs : List (Key × V)} {k : Key} {u : Value} {A : Around} {E : Value → Shared → Prop}
/-- d.pop(k[, x]), there -/
theorem d_pop {v : V} {more : List Value} {Q : Value → Shared → Prop} (I : Inv X pins σ H s) (e : H a = some (.dK kvs)) (ry : RelV (kV k) u) (l : valV kvs k = some v) (hm : more = [] ∨ ∃ x, more = [x])
    (h : ∀ w' s', Inv X pins σ (upd H a (.dK (dropK kvs k))) s' → RelV v w' → Q w' s') : wpAny (model X.prog X.w) A (call (.builtin "dict.pop") (.ref a :: u :: more)) Q E s := by
  obtain ⟨z, hd, vs, rel, dd⟩ := dk_of I.hok e
  obtain ⟨w', hw, rw'⟩ := RelO.some_of (v := v) (o := valueAt vs k) (by rw [← l]; exact rel.val k)
  have hp : (keyPart u).isSome = true := by
    cases k with
    | inl i => obtain ⟨t, q⟩ := (show ∃ t, u = Value.int i t from ry); subst q; rfl
    | inr x => obtain ⟨t, q⟩ := (show ∃ t, u = Value.str x t from ry); subst q; rfl
  have ha : argsOk "dict.pop" ⟨.ref a :: u :: more, []⟩ := by
    rcases hm with q | ⟨x, q⟩
    · subst q; exact PySem.F.args_dict_pop_2 _ _
    · subst q; exact PySem.F.args_dict_pop_3 _ _ _
  refine call_meetsIn PySem.F.slot_dict_pop dd.typeIs PySem.F.entry_dict_pop ha (meets_dict_pop_there (mixKind X.prog X.w) a (kV_is ry) more hm hp)
    ⟨vs, w', dd, by rw [← rel.length]; exact z, hw, fun h' dd' hs => h w' _ ?_ rw'⟩
  have he : ∃ q, h'.get? a = some q := let ⟨q, _, _, hq, _⟩ := dd'; ⟨q, hq⟩
  exact d_write I (by rw [e]; exact True.intro) hs he (dk_new (Nat.le_trans (dropK_le kvs k) z) hd (rel.drop k) dd')
/-- len(d) -/
theorem d_len {Q : Value → Shared → Prop} (I : Inv X pins σ H s) (e : Rd H a (.dK kvs)) (h : ∀ t s', Inv X pins σ H s' → Q (.int kvs.length t) s') : wpAny (model X.prog X.w) A (call (.builtin "len") [.ref a]) Q E s := by
  obtain ⟨z, hd, vs, rel, dd⟩ := dk_rd I.hok e
  refine call_len_dict hd dd (by rw [← rel.length]; rw [sizeLine_eq] at z; omega) ?_
  rw [← rel.length]
  exact h _ _ (I.tok _)
end



/-- y in d, y not in d -/
def tDIn (ty td : TE) : TE := fun σ H Q => ty σ H fun y H1 => td σ H1 fun x H2 => ∃ a o, x = .ref a ∧ DGet H2 a y o ∧ Q (.bl o.isSome) H2
def tDNotIn (ty td : TE) : TE := fun σ H Q => ty σ H fun y H1 => td σ H1 fun x H2 => ∃ a o, x = .ref a ∧ DGet H2 a y o ∧ Q (.bl (!o.isSome)) H2
/-- d[y] = v -/
def sDPut (td ty tv : TE) : TS := fun D σ H => tv σ H fun v H1 => td σ H1 fun x H2 => ty σ H2 fun y H3 => ∃ a H4, x = .ref a ∧ DPut H3 a y v H4 ∧ D.nx σ H4
section
variable {X : Cx} {o i e value : Expr} {pos pos' tpos : Pos} {td ty tv : TE}
theorem pc_din (hu : X.A.units + 1 < cLine) (hi : PE X i ty) (ho : PE X o td) : PC X .In i o (tDIn ty td) := by
  intro pins s σ H Q I h
  refine thn (hi pins s σ H _ I h) fun iv s1 ⟨y, H1, I1, ry, q1⟩ => thn (ho pins s1 σ H1 _ I1 q1) fun u s2 ⟨x, H2, I2, rx, a, ov, ex, g, q2⟩ => ?_
  subst ex
  obtain rfl : u = Value.ref a := rx
  exact d_in hu I2 g ry fun s3 I3 => ⟨.bl ov.isSome, H2, I3, rfl, q2⟩
theorem pc_dnotin (hu : X.A.units + 1 < cLine) (hi : PE X i ty) (ho : PE X o td) : PC X .NotIn i o (tDNotIn ty td) := by
  intro pins s σ H Q I h
  refine thn (hi pins s σ H _ I h) fun iv s1 ⟨y, H1, I1, ry, q1⟩ => thn (ho pins s1 σ H1 _ I1 q1) fun u s2 ⟨x, H2, I2, rx, a, ov, ex, g, q2⟩ => ?_
  subst ex
  obtain rfl : u = Value.ref a := rx
  exact d_notIn hu I2 g ry fun s3 I3 => ⟨.bl (!ov.isSome), H2, I3, rfl, q2⟩
theorem ps_dput (hu : X.A.units + 1 < cLine) (ho : PE X o td) (hi : PE X i ty) (hv : PE X value tv) (hs : swapsWith value (some (.Subscript o i pos')) pos.line X.env = pure false) :
    PS X (.Assign [.Subscript o i pos'] value pos) (sDPut td ty tv) := by
  intro pins s σ H D I h
  refine wpAny_Assign_Subscript (thn (hv pins s σ H _ I h) fun r s1 ⟨v, H1, I1, rv, q1⟩ => thn (ho pins s1 σ H1 _ I1 q1) fun u s2 ⟨x, H2, I2, rx, q2⟩ => thn (hi pins s2 σ H2 _ I2 q2) fun iv s3 ⟨y, H3, I3, ry, a, H4, ex, g, q3⟩ => ?_) hs
  subst ex
  obtain rfl : u = Value.ref a := rx
  exact d_setItem hu I3 g ry rv fun s4 I4 => ⟨σ, H4, I4, q3⟩
end



theorem dk_empty {P : Program} {w : World} {H : Hp} (h : Heap) (hb : sysModules < h.objs.size) : ObjOk P w H (h.push { cls := .type "dict", data := .dict #[] }) h.objs.size (.dK []) :=
  ⟨Nat.zero_le _, beq_eq_false_iff_ne.mpr (Ne.symm (Nat.ne_of_lt hb)), [], .nil, Heap.DictOf.new h⟩
/-- {}, to be a dict of the kind that is wanted -/
def tDNewK : TE := fun _ H Q => ∀ p, H p = none → Q (.ref p) (upd H p (.dK []))
section
variable {X : Cx} {pos : Pos}
theorem pe_dnewK : PE X (.Dict [] [] pos) tDNewK := fun pins s σ H Q I h =>
  wpAny_Dict_empty ⟨.ref s.heap.objs.size, _, I.laid (a := s.heap.objs.size) (o := .dK []) (t' := s.toks) (fun _ _ q => Heap.get?_push_of_some _ q) (Nat.le_refl _) (dk_empty s.heap I.big), rfl, h _ (I.hok.fresh (Nat.le_refl _))⟩
end

/-- a method call o.m(e) of a built-in, with one argument: what must be seen of the text -/
structure M1 (X : Cx) (o : Expr) (m : Str) (apos : Pos) (e : Expr) (cpos : Pos) : Prop where
  base : attributeBase o m X.env (eval o X.env) = eval o X.env
  few : ((backTo cpos (starEach [e] X.env)).all (fun x => !x.1) && (backToKw cpos (keywordEach [] X.env)).all (fun x => x.1.isSome)
    && decide (([e] : List Expr).length + ([] : List Keyword).length + (if ([] : List Keyword).isEmpty then 0 else 1) < 30)) = true
  line : (apos.endLine == cpos.line) = true
  trees : backTo cpos (starEach [e] X.env) = [(false, eval e X.env)]
structure M2 (X : Cx) (o : Expr) (m : Str) (apos : Pos) (e f : Expr) (cpos : Pos) : Prop where
  base : attributeBase o m X.env (eval o X.env) = eval o X.env
  few : ((backTo cpos (starEach [e, f] X.env)).all (fun x => !x.1) && (backToKw cpos (keywordEach [] X.env)).all (fun x => x.1.isSome)
    && decide (([e, f] : List Expr).length + ([] : List Keyword).length + (if ([] : List Keyword).isEmpty then 0 else 1) < 30)) = true
  line : (apos.endLine == cpos.line) = true
  trees : backTo cpos (starEach [e, f] X.env) = [(false, eval e X.env), (false, eval f X.env)]

/-- a is a dict, whatever its keys -/
def IsD (H : Hp) (a : Addr) : Prop := (∃ kvs, Rd H a (.dK kvs)) ∨ ∃ kvs, Rd H a (.dT kvs)
theorem isD_at {X : Cx} {pins : List (Addr × Obj)} {σ : St} {H : Hp} {s : Shared} {a : Addr} (I : Inv X pins σ H s) (d : IsD H a) :
    s.TypeIs (.ref a) "dict" ∧ (∀ b, Value.ref a = .ref b → ∃ ob, s.heap.get? b = some ob ∧ ob.dict = none) ∧ (a == sysModules) = false := by
  rcases d with ⟨kvs, e⟩ | ⟨kvs, e⟩
  · obtain ⟨_, hd, vs, _, dd⟩ := dk_rd I.hok e
    refine ⟨dd.typeIs, fun b q => ?_, hd⟩
    cases q
    obtain ⟨ob, _, _, h1, h2, _⟩ := dd
    exact ⟨ob, h1, h2.2.1⟩
  · obtain ⟨_, hd, xs, _, dd⟩ := dt_rd I.hok e
    refine ⟨dd.typeIs, fun b q => ?_, hd⟩
    cases q
    obtain ⟨ob, _, _, h1, h2, _⟩ := dd
    exact ⟨ob, h1, h2.2.1⟩

section
variable {X : Cx} {pins : List (Addr × Obj)} {σ : St} {H : Hp} {s : Shared} {a : Addr} {y d : V} {u r : Value} {o : Option V} {A : Around} {E : Value → Shared → Prop}
/-- d.get(y, x) -/
theorem d_get2 {Q : Value → Shared → Prop} (hu : A.units + 1 < cLine) (I : Inv X pins σ H s) (g : DGet H a y o) (ry : RelV y u) (rd : RelV d r) (h : ∀ w' s', Inv X pins σ H s' → RelV (o.getD d) w' → Q w' s') :
    wpAny (model X.prog X.w) A (call (.builtin "dict.get") [.ref a, u, r]) Q E s := by
  rcases g with ⟨kvs, k, e, ey, l⟩ | ⟨kvs, k, b, e, ey, eb, l⟩
  · subst ey
    obtain ⟨z, hd, vs, rel, dd⟩ := dk_rd I.hok e
    refine call_meetsIn PySem.F.slot_dict_get dd.typeIs PySem.F.entry_dict_get (PySem.F.args_dict_get_3 _ _ _) (meets_dict_get_default (mixKind X.prog X.w) a (kV_is ry) hd r) ⟨_, dd.mapOf, h _ _ (I.tok _) ?_⟩
    rw [l]
    exact (rel.val k).getD rd
  · subst ey
    cases (show u = Value.ref b from ry)
    obtain ⟨z, hd, xs, rel, dd⟩ := dt_rd I.hok e
    refine call_meetsIn PySem.F.slot_dict_get dd.typeIs PySem.F.entry_dict_get (PySem.F.args_dict_get_3 _ _ _) (meetsH_dict_get_default (tupleKind (mixKind X.prog X.w)) a b hd r) ⟨tupleKind_room_in1 hu, k, xs, key_of I.hok eb, dd, h _ _ (I.tok _) ?_⟩
    rw [l]
    exact (rel.val k).getD rd
end

def tDGet2 (td ty tx : TE) : TE := fun σ H Q => td σ H fun x H1 => ∃ a, x = .ref a ∧ IsD H1 a ∧ ty σ H1 fun y H2 => tx σ H2 fun z H3 => ∃ o, DGet H3 a y o ∧ Q (o.getD z) H3
/-- d.pop(k): there; d.pop(k, x): there or not -/
def tDPop1 (td ty : TE) : TE := fun σ H Q => td σ H fun x H1 => ∃ a, x = .ref a ∧ IsD H1 a ∧ ty σ H1 fun y H2 => ∃ kvs k v, H2 a = some (.dK kvs) ∧ y = kV k ∧ valV kvs k = some v ∧ Q v (upd H2 a (.dK (dropK kvs k)))
section
variable {X : Cx} {o e f : Expr} {apos cpos : Pos} {td ty tx : TE}
theorem pe_dget2 (hu : X.A.units + 1 < cLine) (ho : PE X o td) (he : PE X e ty) (hf : PE X f tx) (m : M2 X o "get" apos e f cpos) : PE X (.Call (.Attribute o "get" apos) [e, f] [] cpos) (tDGet2 td ty tx) := by
  intro pins s σ H Q I h
  refine wpAny_Call_method m.base m.few m.line PySem.F.plainAttrs_dict PySem.F.slot_dict_get PySem.F.type_dict_get (thn (ho pins s σ H _ I h) fun u s1 ⟨x, H1, I1, rx, a, ex, d, q1⟩ => ?_)
  subst ex
  obtain rfl : u = Value.ref a := rx
  obtain ⟨t1, t2, _⟩ := isD_at I1 d
  refine ⟨t1, t2, ?_⟩
  rw [m.trees]
  refine Calls.callWith_builtin rfl (Calls.evalArgs_plain (Calls.spliced_cons (thn (he pins s1 σ H1 _ I1 q1) fun iv s2 ⟨y, H2, I2, ry, q2⟩ =>
    Calls.spliced_cons (thn (hf pins s2 σ H2 _ I2 q2) fun fv s3 ⟨z, H3, I3, rz, ov, g, q3⟩ => Calls.spliced_nil ?_))))
  exact d_get2 hu I3 g ry rz fun w' s4 I4 rw' => ⟨_, H3, I4, rw', q3⟩
theorem pe_dpop1 (ho : PE X o td) (he : PE X e ty) (m : M1 X o "pop" apos e cpos) : PE X (.Call (.Attribute o "pop" apos) [e] [] cpos) (tDPop1 td ty) := by
  intro pins s σ H Q I h
  refine wpAny_Call_method m.base m.few m.line PySem.F.plainAttrs_dict PySem.F.slot_dict_pop PySem.F.type_dict_pop (thn (ho pins s σ H _ I h) fun u s1 ⟨x, H1, I1, rx, a, ex, d, q1⟩ => ?_)
  subst ex
  obtain rfl : u = Value.ref a := rx
  obtain ⟨t1, t2, _⟩ := isD_at I1 d
  refine ⟨t1, t2, ?_⟩
  rw [m.trees]
  refine Calls.callWith_builtin rfl (Calls.evalArgs_plain (Calls.spliced_cons (thn (he pins s1 σ H1 _ I1 q1) fun iv s2 ⟨y, H2, I2, ry, kvs, k, v, ea, ey, l, q2⟩ => Calls.spliced_nil ?_)))
  subst ey
  exact d_pop I2 ea ry l (.inl rfl) fun w' s3 I3 rw' => ⟨v, _, I3, rw', q2⟩
end


section
variable {X : Cx} {pins : List (Addr × Obj)} {σ : St} {H : Hp} {s : Shared} {a : Addr} {kvs : List (Key × V)} {A : Around} {E : Value → Shared → Prop}
end


section
variable {X : Cx} {pins : List (Addr × Obj)} {σ : St} {H : Hp} {s : Shared} {a : Addr} {y : V} {u : Value} {A : Around} {E : Value → Shared → Prop}
end
end L2

namespace Att
open PySem PySem.W PySem.Calls PyProof.Rows


section
variable {prog : Program} {w : World} {A : Around} {E : Value → Shared → Prop} {s : Shared} {K : Frag}

end
end Att

namespace L2
open PySem PySem.Spec PyProof.Rows

end L2

namespace L2
open PySem PySem.Spec PyProof.Rows

end L2




namespace L2
open PySem PySem.Spec PyProof.Rows


section
variable {P : Program} {w : World} {K : PySem.W.Frag} {mg : Str → Option Value} {base : Heap}
end
section
variable {X : Cx}
/-- len of a dict -/
theorem call_lenD : CallR X (.builtin "len") (fun xs H Q => ∃ a kvs, xs = [V.ref a] ∧ H a = some (.dK kvs) ∧ Q (.int kvs.length) H) := by
  intro pins s σ H xs us Q I r h
  obtain ⟨a, kvs, rfl, ha, q⟩ := h
  obtain ⟨u, rfl, ru⟩ := vals1 r
  cases ru
  exact d_len I (.inl ha) fun t s' I' => ⟨.int kvs.length, H, I', ⟨t, rfl⟩, q⟩
end


section
variable {κ : Type} [DecidableEq κ]
end
end L2

/-! ## for k, x in enumerate(list) -/
namespace L2
open PySem PySem.Spec PyProof.Rows
theorem Inv.turnedL {X : Cx} {pins : List (Addr × Obj)} {σ : St} {H : Hp} {s : Shared} {h' : Heap} {t' : Nat} {fp : List Addr} (I : Inv X pins σ H s) (k : ∀ b o, b ∉ fp → s.heap.get? b = some o → h'.get? b = some o) (hf : ∀ b ∈ fp, FpOk X pins H b) : Inv X pins σ H { s with heap := h', toks := t' } := by
  have nit : ∀ b u, H b = some u → b ∉ fp := fun b u e z => by rw [(hf b z).1] at e; cases e
  refine I.step (g' := s.gens) (d' := s.drawn) (ch := fp) (fun b hb => ?_) (fun b o _ _ hc e _ => k b o hc e) (fun b o _ _ hc e _ => ⟨o.slots, k b o hc e⟩) (fun _ _ _ _ n => n)
    (fun b o hc e => ⟨o, k b o hc e⟩) (fun _ _ e => e) (fun _ _ _ e => e) (fun b ps e => ⟨#[], by rw [e]; simp⟩) (fun m hm => ?_) (fun b u e => ?_) I.bare
  · obtain ⟨f0, f1, f2, f3, f4, f5⟩ := hf b hb
    exact ⟨f3, f1, f4, f5⟩
  · obtain ⟨o, es, ep, ho, r⟩ := hm
    exact ⟨o, es, ep, k _ o (fun z => (hf _ z).2.1 rfl) ho, r⟩
  · refine (I.hok b u e).stay (fun c v hc q => k c v ?_ q) (fun _ q => q) fun _ _ q => q
    rcases hc with z | z
    · rw [z]; exact nit b u e
    · exact nit c _ z
/-- the pairs of place and item of the list at a -/
def Ite (K : PySem.W.Frag) (a : Addr) : It :=
  ⟨fun i H => ∃ xs x, SqL K H a xs ∧ xs[i]? = some x, fun i H v H' => ∃ t x, v = .ref t ∧ H t = none ∧ H' = upd H t (.tup [.int i, x]) ∧ ∀ xs, SqL K H a xs → xs[i]? = some x, fun i H => ∃ xs, SqL K H a xs ∧ xs.length ≤ i⟩
theorem turn_enum {P : Program} {w : World} {K : PySem.W.Frag} {elts : List Expr} {n : Nat} {pos : Pos} (a e it : Addr) (hne : e ≠ it) : Turn P w K (.Tuple elts n pos) (Ite K a) [e, it] e (fun i h => (∃ old, IsEnum h e it i old) ∧ h.IsListIter it a i) where
  mem := by simp
  obj := fun i h st b hb => by
    obtain ⟨⟨old, he⟩, o, ho, c, d⟩ := st
    rcases List.mem_cons.mp hb with rfl | hb
    · exact ⟨_, he, fun v z => by cases z⟩
    · have e2 : b = it := by simpa using hb
      subst e2
      exact ⟨o, ho, fun v z => by rw [d] at z; cases z⟩
  keep := fun i h h' st k => ⟨st.1.imp fun old he => k e (by simp) _ he, st.2.at fun o q => k it (by simp) o q⟩
  item := by
    intro X hP hw hK hc i pins s σ H E I hf st hg
    subst hP hw hK
    obtain ⟨⟨old, he⟩, hit⟩ := st
    obtain ⟨xs, x, hq, hx⟩ := hg
    obtain ⟨its, rv, p, hz⟩ := I.list hq
    obtain ⟨u, hu, ru⟩ := rv.get hx
    have elt : e < s.heap.objs.size := Heap.lt_size he
    have ilt : it < s.heap.objs.size := by obtain ⟨_, q, _⟩ := hit; exact Heap.lt_size q
    refine wpAny_pyNext_enum_item he hit p.isList (x := u) (by simpa using hu) hne fun h' ho hit' hT hsz hk => ⟨_, rfl, ?_⟩
    refine wpAny_letOwnedTupleGo_enum (s := { s with heap := h', toks := s.toks + 1 }) ho fun h2 he2 hs2 => ?_
    have fr : H s.heap.objs.size = none := I.hok.fresh (Nat.le_refl _)
    have I1 : Inv X pins σ (upd H s.heap.objs.size (.tup [.int i, x])) { s with heap := s.heap.push { cls := .type "tuple", data := .seq #[.int i s.toks, u] }, toks := s.toks + 1 } :=
      I.laid (t' := s.toks + 1) (fun b o q => Heap.get?_push_of_some _ q) (Nat.le_refl _) (show ObjOk X.prog X.w _ _ _ (.tup [.int i, x]) from ⟨szOk (by show 2 ≤ _; decide), [.int i s.toks, u], .cons ⟨_, rfl⟩ (.cons ru .nil), _, Heap.get?_push_size _ rfl, rfl, _, rfl⟩)
    have nf : ∀ b ∈ [e, it], b ≠ s.heap.objs.size := fun b hb z => by
      rcases List.mem_cons.mp hb with rfl | hb
      · exact Nat.ne_of_lt elt z
      · have e2 : b = it := by simpa using hb
        rw [e2] at z
        exact Nat.ne_of_lt ilt z
    have hf1 : ∀ b ∈ [e, it], FpOk X pins (upd H s.heap.objs.size (.tup [.int i, x])) b := fun b hb => by
      obtain ⟨f0, f⟩ := hf b hb
      exact ⟨by rw [upd_ne (nf b hb)]; exact f0, f⟩
    have kk : ∀ b o, b ∉ [e, it] → (s.heap.push { cls := .type "tuple", data := .seq #[.int i s.toks, u] }).get? b = some o → h2.get? b = some o := fun b o hb q => by
      simp only [List.mem_cons, List.not_mem_nil, or_false, not_or] at hb
      have q2 : h'.get? b = some o := by
        by_cases hbT : b = s.heap.objs.size
        · subst hbT
          rw [Heap.get?_push_size _ rfl] at q
          rw [hT, ← q]
        · rw [Heap.get?_push_ne _ _ _ hbT] at q
          exact hk b o hb.1 hb.2 q
      exact (hs2.2 b hb.1).trans q2
    have I2 : Inv X pins σ (upd H s.heap.objs.size (.tup [.int i, x])) { s with heap := h2, toks := s.toks + 1 } :=
      Inv.turnedL (s := { s with heap := s.heap.push { cls := .type "tuple", data := .seq #[.int i s.toks, u] }, toks := s.toks + 1 }) (fp := [e, it]) (h' := h2) (t' := s.toks + 1) I1 kk hf1
    exact ⟨.ref s.heap.objs.size, _, I2, rfl, ⟨_, x, rfl, fr, rfl, fun ys hy => by rw [I.list_inj hy hq]; exact hx⟩, ⟨⟨u, by simpa using he2⟩, hit'.at fun o q => (hs2.2 it hne.symm).trans q⟩, fun b hb => (hf1 b hb).1⟩
  done := by
    intro X hP hw hK hc i pins s σ H E I hf st hg
    subst hP hw hK
    obtain ⟨⟨old, he⟩, hit⟩ := st
    obtain ⟨xs, hq, hx⟩ := hg
    obtain ⟨its, rv, p, hz⟩ := I.list hq
    have hl := rv.length
    refine wpAny_pyNext_enum_end (I.ok.hd hc) he hit p.isList (by simp; omega) fun h' eb => ⟨rfl, I.turnedL (fp := [e, it]) (t' := s.toks) (fun b o hb q => eb b o (fun z => hb (by simp [z])) q) hf⟩
  self := fun _ _ _ _ _ st h => by
    obtain ⟨⟨old, he⟩, _⟩ := st
    exact wpAny_pyIter_enum he h
section
variable {X : Cx} {elts : List Expr} {n : Nat} {tpos p pos : Pos} {l : Expr} {tl : TE}
def iEnum (K : PySem.W.Frag) (tl : TE) : TI := fun σ H R => tl σ H fun x H1 => ∃ a, x = .ref a ∧ (∃ xs, SqL K H1 a xs) ∧ R (Ite K a) H1
theorem pi_enum (hg : Gl X "enumerate") (hm : X.mg "enumerate" = none) (hl : PE X l tl) (hs : starEach [l] X.env = [(false, eval l X.env)] := by rfl) : PI X (.Tuple elts n tpos) (.Call (.Name "enumerate" p) [l] [] pos) (iEnum X.K tl) := by
  intro pins s σ H R I h
  refine Call_ (ld_blt I hg hm boot_enumerate (PyProof.Rows.callWith_type1 (thn (pa_cons hl pa_nil hs pos pins s σ H (fun vs H1 => match vs with | [x] => ∃ a, x = .ref a ∧ (∃ xs, SqL X.K H1 a xs) ∧ R (Ite X.K a) H1 | _ => False) I h) fun us s1 ⟨vs, H1, I1, r1, q1⟩ => ?_) hs rfl))
  · match vs, q1, r1 with
    | [x], q1, r1 =>
    obtain ⟨a, e, ⟨xs, hq⟩, q⟩ := q1
    subst e
    obtain ⟨u, rfl, ru⟩ := vals1 r1
    cases ru
    obtain ⟨its, rv, pl, hz⟩ := I1.list hq
    refine call_enumerate_list pl.isList fun h' he hit hsz hk => wpAny_pyIter_enum (s := { s1 with heap := h' }) he ?_
    refine ⟨s1.heap.objs.size + 1, [s1.heap.objs.size + 1, s1.heap.objs.size], _, _, H1, rfl, I1.kept (t' := s1.toks) hk, turn_enum a _ _ (Nat.succ_ne_self _), ⟨⟨_, he⟩, hit⟩, fun b hb => ?_, q⟩
    have hb2 : s1.heap.objs.size ≤ b := by
      rcases List.mem_cons.mp hb with rfl | hb
      · exact Nat.le_succ _
      · have e2 : b = s1.heap.objs.size := by simpa using hb
        rw [e2]; exact Nat.le_refl _
    exact I1.fpOk hb2 (I1.hok.fresh hb2)
end
theorem for_enum {K : PySem.W.Frag} {a : Addr} {xs : List V} {g : TG} {tb : TS} {D : Ends} {σ : St} {H : Hp} (Pv : Nat → St → Hp → Prop) (h0 : Pv 0 σ H) (hl : ∀ i σ H, i ≤ xs.length → Pv i σ H → SqL K H a xs)
    (hs : ∀ i x σ H t, xs[i]? = some x → Pv i σ H → H t = none → g (.ref t) σ (upd H t (.tup [.int i, x])) fun σ2 H2 => tb { D with nx := Pv (i + 1), ct := Pv (i + 1), bk := D.nx } σ2 H2) (hd : ∀ σ H, Pv xs.length σ H → D.nx σ H) :
    ∃ W : Nat → Nat → St → Hp → Prop, (∃ m, W 0 m σ H) ∧ ∀ i m σ H, W i m σ H →
      ((Ite K a).stop i H ∧ D.nx σ H) ∨ ((Ite K a).go i H ∧ ∃ N : St → Hp → Prop, (∀ σ' H', N σ' H' → ∃ m', m' < m ∧ W (i + 1) m' σ' H') ∧ ∀ x H', (Ite K a).yld i H x H' → g x σ H' fun σ2 H2 => tb { D with nx := N, ct := N, bk := D.nx } σ2 H2) := by
  refine ⟨fun i m σ H => m = xs.length - i ∧ i ≤ xs.length ∧ Pv i σ H, ⟨xs.length, by simp, Nat.zero_le _, h0⟩, ?_⟩
  rintro i m σ H ⟨rfl, hi, p⟩
  have q := hl i σ H hi p
  by_cases hlt : i < xs.length
  · refine .inr ⟨⟨xs, xs[i], q, by simp [hlt]⟩, Pv (i + 1), fun σ' H' p' => ⟨xs.length - (i + 1), by omega, rfl, hlt, p'⟩, fun x H' y => ?_⟩
    obtain ⟨t, x0, rfl, ht, rfl, y⟩ := y
    exact hs i x0 σ _ t (y xs q) p ht
  · have e : i = xs.length := by omega
    subst e
    exact .inl ⟨⟨xs, q, Nat.le_refl _⟩, hd σ H p⟩
end L2

namespace K18
open PySem L2
def top (i : Nat) : Stmt := PySem.Challenge.pw_bellbook_k18_sums_of_a_meeting.main.body.getD i (.Pass ⟨0, 0, 0, 0⟩)
structure Bl (mg : Str → Option Value) : Prop where
  b_abs : mg "abs" = none
  b_bool : mg "bool" = none
  b_enumerate : mg "enumerate" = none
  b_int : mg "int" = none
  b_isinstance : mg "isinstance" = none
  b_len : mg "len" = none
  b_list : mg "list" = none
  b_min : mg "min" = none
  b_range : mg "range" = none
  b_str : mg "str" = none
  b_tuple : mg "tuple" = none
structure Co (mg : Str → Option Value) where
  t_LEFT : Tok
  t_NAME : Tok
  t_PEAK : Tok
  t_PRICE : Tok
  t_SHOWN : Tok
  t_SIDE : Tok
  t_WHO : Tok
  m_LEFT : mg "LEFT" = some (.int 4 t_LEFT)
  m_NAME : mg "NAME" = some (.int 0 t_NAME)
  m_PEAK : mg "PEAK" = some (.int 6 t_PEAK)
  m_PRICE : mg "PRICE" = some (.int 3 t_PRICE)
  m_SHOWN : mg "SHOWN" = some (.int 5 t_SHOWN)
  m_SIDE : mg "SIDE" = some (.int 2 t_SIDE)
  m_WHO : mg "WHO" = some (.int 1 t_WHO)
set_option genInjectivity false in
set_option genSizeOf false in
structure Er (K : PySem.W.Frag) (mg : Str → Option Value) where
  c_BadNumber : Addr
  c_NoOrder : Addr
  c_Twice : Addr
  m_BadNumber : mg "BadNumber" = some (.ref c_BadNumber)
  m_NoOrder : mg "NoOrder" = some (.ref c_NoOrder)
  m_Twice : mg "Twice" = some (.ref c_Twice)
  x_BadNumber : PySem.W.excIn K c_BadNumber [.type "ValueError", .type "Exception", .type "BaseException", .type "object"] "ValueError.__new__" = true
  i_BadNumber_BadNumber : PySem.W.kitOne K (.ref c_BadNumber) (.ref c_BadNumber) = some true
  i_BadNumber_NoOrder : PySem.W.kitOne K (.ref c_BadNumber) (.ref c_NoOrder) = some false
  i_BadNumber_Twice : PySem.W.kitOne K (.ref c_BadNumber) (.ref c_Twice) = some false
  x_NoOrder : PySem.W.excIn K c_NoOrder [.type "ValueError", .type "Exception", .type "BaseException", .type "object"] "ValueError.__new__" = true
  i_NoOrder_BadNumber : PySem.W.kitOne K (.ref c_NoOrder) (.ref c_BadNumber) = some false
  i_NoOrder_NoOrder : PySem.W.kitOne K (.ref c_NoOrder) (.ref c_NoOrder) = some true
  i_NoOrder_Twice : PySem.W.kitOne K (.ref c_NoOrder) (.ref c_Twice) = some false
  x_Twice : PySem.W.excIn K c_Twice [.type "ValueError", .type "Exception", .type "BaseException", .type "object"] "ValueError.__new__" = true
  i_Twice_BadNumber : PySem.W.kitOne K (.ref c_Twice) (.ref c_BadNumber) = some false
  i_Twice_NoOrder : PySem.W.kitOne K (.ref c_Twice) (.ref c_NoOrder) = some false
  i_Twice_Twice : PySem.W.kitOne K (.ref c_Twice) (.ref c_Twice) = some true
  k_BadNumber : Bk.ExcK K c_BadNumber
  k_NoOrder : Bk.ExcK K c_NoOrder
  k_Twice : Bk.ExcK K c_Twice
local macro_rules | `(tactic| walk_at "sz") => `(tactic| first | exact szOk (Nat.le_of_ble_eq_true rfl) | exact szLt (Nat.le_of_ble_eq_true rfl) | omega)
local macro_rules | `(tactic| walk_at "hp") => `(tactic| first | assumption | exact upd_same | (refine at_upd ?_ ?_ <;> walk_at "hp"))
local macro_rules | `(tactic| walk_at "sq") => `(tactic| first | assumption | exact .inl (.inl upd_same) | (refine sq_upd ?_ ?_ <;> first | walk_at "sq" | walk_at "hp"))
local macro_rules | `(tactic| walk_at "side") => `(tactic| first | (show (0 : Int) < _; decide) | exact ⟨by decide, by decide⟩ | exact ⟨by decide, by decide, by decide⟩ | exact .inl ⟨by decide, by decide⟩ | exact .inr ⟨by decide, by decide⟩ | omega)
local macro_rules | `(tactic| walk_at "rd1") => `(tactic| first
  | (refine ⟨_, rfl, ?_⟩)
  | (refine ⟨_, _, rfl, rfl, ?_⟩)
  | (refine ⟨rfl, ?_⟩)
  | (refine ⟨_, _, rfl, rfl, by walk_at "side", ?_⟩))
local macro_rules | `(tactic| walk_at "rd") => `(tactic| repeat walk_at "rd1")

def shw (l pk : Int) : Int := if pk = 0 then l else if l < pk then l else pk
def ordV (n w s : Str) (pr l sh pk : Int) : List V := [.str n, .str w, .str s, .int pr, .int l, .int sh, .int pk]
theorem ord_cut (n w s : Str) (pr l sh pk : Int) : ¬ (HT.sIx (ordV n w s pr l sh pk).length 0 none = 0 ∧ HT.sIx (ordV n w s pr l sh pk).length (ordV n w s pr l sh pk).length (some 4) = (ordV n w s pr l sh pk).length) := by
  show ¬ (HT.sIx 7 0 none = 0 ∧ HT.sIx 7 7 (some 4) = 7)
  decide
structure Od where
  n : Str
  w : Str
  s : Str
  pr : Int
  l : Int
  sh : Int
  pk : Int
def odV (o : Od) : List V := [.str o.n, .str o.w, .str o.s, .int o.pr, .int o.l, .int o.sh, .int o.pk]
abbrev AO := Addr × Od
def rf (p : AO) : V := .ref p.1
def Ords (H : Hp) (ps : List AO) : Prop := ∀ p ∈ ps, H p.1 = some (.tup (odV p.2))
theorem Ords.same {H H' : Hp} {ps : List AO} (h : Ords H ps) (s : Same H H') : Ords H' ps := fun p hp => s _ _ (h p hp)
theorem get_rf {ps : List AO} {i : Nat} {x : V} (h : (ps.map rf)[i]? = some x) : ∃ p, x = rf p ∧ ps[i]? = some p ∧ p ∈ ps := by
  rw [List.getElem?_map] at h
  cases e : ps[i]? with
  | none => rw [e] at h; cases h
  | some n => rw [e] at h; exact ⟨n, (Option.some.inj h).symm, rfl, List.mem_of_getElem? e⟩
theorem one_sz (c : Nat) : (Str.mk #[c]).length = 1 := rfl
def aheadB (s : Str) (p o : Int) : Bool := if s = "buy" then decide (o < p) else decide (p < o)

def LET : Str := "abcdefghijklmnopqrstuvwxyz"
def FIG : Str := "0123456789"
theorem let_sz : LET.cps.size = 26 := by decide +kernel
theorem sgs_sz : (LET ++ FIG).cps.size = 36 := by decide +kernel
theorem let_ok : LET.length ≤ sizeLine := szOk (by show LET.cps.size ≤ _; rw [let_sz]; decide)
theorem sgs_ok : (LET ++ FIG).length ≤ sizeLine := szOk (by show (LET ++ FIG).cps.size ≤ _; rw [sgs_sz]; decide)
def sgnAt (seed : Int) (i : Nat) : Str := ⟨#[(LET ++ FIG).cps.getD ((seed + 7 * (1 + (i : Int))) % 36).toNat 0]⟩
theorem at_sgn2 {z : Str} {i : Int} (h0 : 0 ≤ i) (h1 : i < (z.cps.size : Int)) : atI z.cps.toList i = some (z.cps.getD i.toNat 0) := by
  obtain ⟨k, rfl⟩ := Int.eq_ofNat_of_zero_le h0
  have hk : k < z.cps.size := by omega
  refine atI_nat ?_
  rw [Array.getElem?_toList, Array.getElem?_eq_getElem hk, Array.getD_eq_getD_getElem?]
  simp [hk]
/-- a size that an order in line may have -/
def Szd (l sh pk : Int) : Prop := 1 ≤ sh ∧ sh ≤ l ∧ l ≤ 1000000000 ∧ 0 ≤ pk ∧ (pk = 0 → sh = l) ∧ (pk ≠ 0 → sh ≤ pk) ∧ l - sh ≤ 15 * pk

def place (s : Str) (p : Int) : List AO → Nat
  | [] => 0
  | x :: r => if aheadB s p x.2.pr = true then 0 else place s p r + 1
theorem place_le (s : Str) (p : Int) : ∀ ps : List AO, place s p ps ≤ ps.length
  | [] => Nat.le_refl _
  | x :: r => by
    unfold place
    have := place_le s p r
    rw [List.length_cons]
    split <;> omega
theorem place_step (s : Str) (p : Int) : ∀ (ps : List AO) (k : Nat) (x : AO), ps[k]? = some x → k ≤ place s p ps → (aheadB s p x.2.pr = false → k + 1 ≤ place s p ps) ∧ (aheadB s p x.2.pr = true → k = place s p ps)
  | [], _, _, h, _ => by cases h
  | y :: r, 0, x, h, _ => by
    have e : y = x := Option.some.inj h
    subst e
    unfold place
    constructor
    · intro h; rw [if_neg (by rw [h]; exact Bool.false_ne_true)]; omega
    · intro h; rw [if_pos h]
  | y :: r, k + 1, x, h, hk => by
    have h' : r[k]? = some x := h
    unfold place at hk ⊢
    by_cases c : aheadB s p y.2.pr = true
    · rw [if_pos c] at hk; omega
    · rw [if_neg c] at hk ⊢
      obtain ⟨a, b⟩ := place_step s p r k x h' (by omega)
      exact ⟨fun z => by have := a z; omega, fun z => by have := b z; omega⟩
def ins (x : AO) (ps : List AO) : List AO := ps.take (place x.2.s x.2.pr ps) ++ x :: ps.drop (place x.2.s x.2.pr ps)
theorem mem_ins {x y : AO} {ps : List AO} (h : y ∈ ins x ps) : y = x ∨ y ∈ ps := by
  rcases List.mem_append.mp h with h | h
  · exact .inr (List.mem_of_mem_take h)
  · rcases List.mem_cons.mp h with h | h
    · exact .inl h
    · exact .inr (List.mem_of_mem_drop h)
theorem ins_len (x : AO) (ps : List AO) : (ins x ps).length = ps.length + 1 := by
  unfold ins
  have := place_le x.2.s x.2.pr ps
  rw [List.length_append, List.length_cons, List.length_take, List.length_drop]
  omega
theorem cut_take (ps : List AO) {k : Nat} (hk : k ≤ ps.length) : cutV (ps.map rf) none (some (k : Int)) = (ps.take k).map rf := by
  unfold cutV
  have h1 : HT.sIx (ps.map rf).length 0 none = 0 := rfl
  have h2 : HT.sIx (ps.map rf).length (ps.map rf).length (some (k : Int)) = k := by
    rw [List.length_map, HT.sIx_nat]; omega
  rw [h1, h2, List.drop_zero, Nat.sub_zero, List.map_take]
theorem cut_drop (ps : List AO) {k : Nat} (hk : k ≤ ps.length) : cutV (ps.map rf) (some (k : Int)) none = (ps.drop k).map rf := by
  unfold cutV
  have h1 : HT.sIx (ps.map rf).length (ps.map rf).length none = ps.length := by rw [List.length_map]; rfl
  have h2 : HT.sIx (ps.map rf).length 0 (some (k : Int)) = k := by
    rw [List.length_map, HT.sIx_nat]; omega
  rw [h1, h2, List.map_drop]
  exact List.take_of_length_le (by rw [List.length_drop, List.length_map]; omega)
def absI (i : Int) : Int := if i < 0 then -i else i
def lookS (o x : Od) (last leap : Int) : Str := if aheadB o.s x.pr o.pr = true then "end" else if x.w = o.w then "shun" else if leap < absI (x.pr - last) then "halt" else "trade"
theorem in_end : inV (.str "end") [V.str "end", V.str "halt"] = true := by decide +kernel
theorem in_halt : inV (.str "halt") [V.str "end", V.str "halt"] = true := by decide +kernel
theorem in_shun : inV (.str "shun") [V.str "end", V.str "halt"] = false := by decide +kernel
theorem in_trade : inV (.str "trade") [V.str "end", V.str "halt"] = false := by decide +kernel
theorem names_in (n : Str) : ∀ ps : List AO, inV (.str n) (ps.map fun x => V.str x.2.n) = decide (n ∈ ps.map fun x => x.2.n)
  | [] => rfl
  | x :: r => by
    have ih := names_in n r
    unfold inV at *
    rw [List.map_cons, List.any_cons, ih, List.map_cons]
    show ((x.2.n == n) || _) = _
    by_cases e : x.2.n = n
    · rw [e, beq_self_eq_true, Bool.true_or]
      exact (decide_eq_true List.mem_cons_self).symm
    · rw [beq_eq_false_iff_ne.mpr e, Bool.false_or]
      exact decide_eq_decide.mpr ⟨fun h => List.mem_cons_of_mem _ h, fun h => (List.mem_cons.mp h).elim (fun z => absurd z.symm e) id⟩
theorem names_flat (ps : List AO) : (ps.map fun x => V.str x.2.n).all flatV = true := by
  rw [List.all_map]; exact List.all_eq_true.mpr fun _ _ => rfl
def behO (x : Od) (am : Int) : Od := ⟨x.n, x.w, x.s, x.pr, x.l - am, if x.sh = am ∧ am < x.l then shw (x.l - am) x.pk else x.sh - am, x.pk⟩
def placeO (s : Str) (p : Int) : List Od → Nat
  | [] => 0
  | x :: r => if aheadB s p x.pr = true then 0 else placeO s p r + 1
theorem placeO_map (s : Str) (p : Int) : ∀ ps : List AO, placeO s p (ps.map (·.2)) = place s p ps
  | [] => rfl
  | x :: r => by
    rw [List.map_cons]
    unfold placeO place
    rw [placeO_map s p r]
def insO (x : Od) (os : List Od) : List Od := os.take (placeO x.s x.pr os) ++ x :: os.drop (placeO x.s x.pr os)
theorem ins_map (x : AO) (ps : List AO) : (ins x ps).map (·.2) = insO x.2 (ps.map (·.2)) := by
  unfold ins insO
  rw [placeO_map, List.map_append, List.map_cons, List.map_take, List.map_drop]
def servedO : List Od → Int → List Od
  | [], _ => []
  | x :: r, am => if x.l = am then r else if x.sh = am ∧ am < x.l then insO (behO x am) r else behO x am :: r
theorem servedO_cons (x : Od) (r : List Od) (am : Int) : servedO (x :: r) am = if x.l = am then r else if x.sh = am ∧ am < x.l then insO (behO x am) r else behO x am :: r := rfl
theorem at_zero (x : AO) (r : List AO) : atI ((x :: r).map rf) 0 = some (rf x) := atI_nat (j := 0) rfl
theorem cut_tail (x : AO) (ps : List AO) : cutV ((x :: ps).map rf) (some 1) none = ps.map rf := by
  have := cut_drop (x :: ps) (k := 1) (by rw [List.length_cons]; omega)
  simpa using this

def OkO (x : Od) : Prop := 1 ≤ x.sh ∧ x.sh ≤ x.l ∧ 0 ≤ x.pk ∧ (x.pk = 0 → x.sh = x.l)
theorem okO_beh {x : Od} {am : Int} (h : OkO x) (h1 : 1 ≤ am) (h2 : am ≤ x.sh) (h3 : x.l ≠ am) : OkO (behO x am) := by
  obtain ⟨a, b, c, d⟩ := h
  unfold OkO behO shw
  by_cases e : x.sh = am ∧ am < x.l
  · have : ¬ x.pk = 0 := fun z => by have := d z; omega
    simp only [if_pos e, if_neg this]
    refine ⟨?_, ?_, c, fun z => absurd z this⟩
    · split <;> omega
    · split <;> omega
  · simp only [if_neg e]
    refine ⟨by omega, by omega, c, fun z => by have := d z; omega⟩
theorem mem_insO {x y : Od} {os : List Od} (h : y ∈ insO x os) : y = x ∨ y ∈ os := by
  rcases List.mem_append.mp h with h | h
  · exact .inr (List.mem_of_mem_take h)
  · rcases List.mem_cons.mp h with h | h
    · exact .inl h
    · exact .inr (List.mem_of_mem_drop h)
theorem insO_perm (x : Od) (os : List Od) : (insO x os).Perm (x :: os) := by
  unfold insO
  refine List.perm_middle.trans (.cons _ ?_)
  rw [List.take_append_drop]
theorem served_ok {x : Od} {r : List Od} {am : Int} (h : ∀ y ∈ x :: r, OkO y) (h1 : 1 ≤ am) (h2 : am ≤ x.sh) : ∀ y ∈ servedO (x :: r) am, OkO y := by
  intro y hy
  rw [servedO_cons] at hy
  have hx := h x List.mem_cons_self
  split at hy
  · exact h y (List.mem_cons_of_mem _ hy)
  rename_i e
  split at hy
  · rcases mem_insO hy with rfl | hy
    · exact okO_beh hx h1 h2 e
    · exact h y (List.mem_cons_of_mem _ hy)
  · rcases List.mem_cons.mp hy with rfl | hy
    · exact okO_beh hx h1 h2 e
    · exact h y (List.mem_cons_of_mem _ hy)
theorem served_nd {x : Od} {r : List Od} {am : Int} (h : ((x :: r).map fun y => y.n).Nodup) : ((servedO (x :: r) am).map fun y => y.n).Nodup := by
  rw [servedO_cons]
  split
  · rw [List.map_cons, List.nodup_cons] at h; exact h.2
  split
  · refine ((insO_perm (behO x am) r).map (fun y => y.n)).nodup_iff.mpr ?_
    exact h
  · exact h
theorem served_len {x : Od} {r : List Od} {am : Int} : (servedO (x :: r) am).length ≤ r.length + 1 := by
  rw [servedO_cons]
  split
  · omega
  split
  · rw [(insO_perm (behO x am) r).length_eq]; exact Nat.le_refl _
  · exact Nat.le_refl _
inductive Met (o : Od) (last leap : Int) : Int → List Od → List (List V) → List Od → Int → Bool → Prop
  | stop {lf os} : ¬ (0 < lf ∧ os ≠ []) → Met o last leap lf os [] os lf false
  | fin {lf x r} : 0 < lf → lookS o x last leap = "end" → Met o last leap lf (x :: r) [] (x :: r) lf false
  | halt {lf x r} : 0 < lf → lookS o x last leap = "halt" → Met o last leap lf (x :: r) [] (x :: r) lf true
  | shun {lf x r ss os' lf' h} : 0 < lf → lookS o x last leap = "shun" → Met o last leap lf r ss os' lf' h → Met o last leap lf (x :: r) ([.str "shun", .str x.n, .int x.l] :: ss) os' lf' h
  | trade {lf x r ss os' lf' h} : 0 < lf → lookS o x last leap = "trade" → Met o last leap (lf - (if x.sh < lf then x.sh else lf)) (servedO (x :: r) (if x.sh < lf then x.sh else lf)) ss os' lf' h →
      Met o last leap lf (x :: r) ([.str "trade", .str x.n, .int x.pr, .int (if x.sh < lf then x.sh else lf)] :: ss) os' lf' h
theorem lookS_four (o x : Od) (last leap : Int) : lookS o x last leap = "end" ∨ lookS o x last leap = "halt" ∨ lookS o x last leap = "shun" ∨ lookS o x last leap = "trade" := by
  unfold lookS
  split
  · exact .inl rfl
  split
  · exact .inr (.inr (.inl rfl))
  split
  · exact .inr (.inl rfl)
  · exact .inr (.inr (.inr rfl))
theorem end_ne_halt : decide (V.str "end" = V.str "halt") = false := by decide +kernel
theorem halt_is : decide (V.str "halt" = V.str "halt") = true := by decide +kernel
theorem shun_is : decide (V.str "shun" = V.str "shun") = true := by decide +kernel
theorem trade_ne : decide (V.str "trade" = V.str "shun") = false := by decide +kernel
def sr (s : Addr × List V) : V := .ref s.1
def Rws (H : Hp) (ss : List (Addr × List V)) : Prop := ∀ s ∈ ss, H s.1 = some (.tup s.2)
theorem Rws.same {H H' : Hp} {ss : List (Addr × List V)} (h : Rws H ss) (s : Same H H') : Rws H' ss := fun p hp => s _ _ (h p hp)
theorem nodup_map2 (ps : List AO) : (ps.map fun x => x.2.n) = (ps.map (·.2)).map fun y => y.n := by rw [List.map_map]; rfl

def mu (x : Od) : Nat := if x.pk = 0 then 1 else 1 + ((x.l - x.sh + x.pk - 1) / x.pk).toNat
def muS (os : List Od) : Nat := (os.map mu).sum
theorem mu_pos (x : Od) : 1 ≤ mu x := by unfold mu; split <;> omega
theorem mu_beh {x : Od} (h : OkO x) (h3 : x.sh < x.l) : mu (behO x x.sh) + 1 = mu x := by
  obtain ⟨a, b, c, d⟩ := h
  have hp : ¬ x.pk = 0 := fun z => by have := d z; omega
  have hp1 : 0 < x.pk := by omega
  have eb : behO x x.sh = ⟨x.n, x.w, x.s, x.pr, x.l - x.sh, shw (x.l - x.sh) x.pk, x.pk⟩ := by unfold behO; rw [if_pos ⟨rfl, h3⟩]
  have es : shw (x.l - x.sh) x.pk = if x.l - x.sh < x.pk then x.l - x.sh else x.pk := by unfold shw; rw [if_neg hp]
  have em : mu (behO x x.sh) = 1 + ((x.l - x.sh - (if x.l - x.sh < x.pk then x.l - x.sh else x.pk) + x.pk - 1) / x.pk).toNat := by rw [eb, es]; exact if_neg hp
  have em2 : mu x = 1 + ((x.l - x.sh + x.pk - 1) / x.pk).toNat := if_neg hp
  rw [em, em2]
  have e1 : x.l - x.sh + x.pk - 1 = (x.l - x.sh - 1) + x.pk := by omega
  have e2 : (x.l - x.sh - 1 + x.pk) / x.pk = (x.l - x.sh - 1) / x.pk + 1 := by
    rw [Int.add_ediv_of_dvd_right (Int.dvd_refl _), Int.ediv_self hp]
  have nn : 0 ≤ (x.l - x.sh - 1) / x.pk := Int.ediv_nonneg (by omega) (by omega)
  rw [e1, e2]
  by_cases c1 : x.l - x.sh < x.pk
  · rw [if_pos c1]
    have e3 : (x.l - x.sh - (x.l - x.sh) + x.pk - 1) / x.pk = 0 := Int.ediv_eq_zero_of_lt (by omega) (by omega)
    have e4 : (x.l - x.sh - 1) / x.pk = 0 := Int.ediv_eq_zero_of_lt (by omega) (by omega)
    rw [e3, e4]
    omega
  · rw [if_neg c1]
    have e3 : x.l - x.sh - x.pk + x.pk - 1 = x.l - x.sh - 1 := by omega
    rw [e3]
    omega
theorem muS_cons (x : Od) (r : List Od) : muS (x :: r) = mu x + muS r := by unfold muS; rw [List.map_cons, List.sum_cons]
theorem muS_insO (x : Od) (r : List Od) : muS (insO x r) = mu x + muS r := by
  rw [← muS_cons]
  unfold muS
  exact ((insO_perm x r).map mu).sum_nat
theorem muS_served {x : Od} {r : List Od} (h : OkO x) : muS (servedO (x :: r) x.sh) + 1 ≤ muS (x :: r) := by
  rw [muS_cons]
  have := mu_pos x
  rw [servedO_cons]
  by_cases e : x.l = x.sh
  · rw [if_pos e]; omega
  · have h3 : x.sh < x.l := by have := h.2.1; omega
    rw [if_neg e, if_pos ⟨rfl, h3⟩, muS_insO]
    have := mu_beh h h3
    omega

def plainV : V → Bool
  | .str _ => true
  | .int _ => true
  | _ => false
theorem s_es : ¬ ("end" : Str) = "shun" := by decide +kernel
theorem s_et : ¬ ("end" : Str) = "trade" := by decide +kernel
theorem s_hs : ¬ ("halt" : Str) = "shun" := by decide +kernel
theorem s_ht : ¬ ("halt" : Str) = "trade" := by decide +kernel
theorem s_st : ¬ ("shun" : Str) = "trade" := by decide +kernel
theorem ins_cons (x y : AO) (r : List AO) : ins x (y :: r) = if aheadB x.2.s x.2.pr y.2.pr = true then x :: y :: r else y :: ins x r := by
  unfold ins
  rw [show place x.2.s x.2.pr (y :: r) = if aheadB x.2.s x.2.pr y.2.pr = true then 0 else place x.2.s x.2.pr r + 1 from rfl]
  split <;> simp
def Srt (s : Str) (ps : List AO) : Prop := ps.Pairwise fun x y => aheadB s y.2.pr x.2.pr = false
theorem ahead_tr {s : Str} {a b c : Int} (h1 : aheadB s a b = true) (h2 : aheadB s c b = false) : aheadB s a c = true := by
  unfold aheadB at *
  split at h1
  · rw [if_pos (by assumption)] at h2 ⊢
    have := of_decide_eq_true h1
    have := of_decide_eq_false h2
    exact decide_eq_true (by omega)
  · rw [if_neg (by assumption)] at h2 ⊢
    have := of_decide_eq_true h1
    have := of_decide_eq_false h2
    exact decide_eq_true (by omega)
theorem ahead_as {s : Str} {a b : Int} (h1 : aheadB s a b = true) : aheadB s b a = false := by
  unfold aheadB at *
  split at h1
  · rw [if_pos (by assumption)]
    have := of_decide_eq_true h1
    exact decide_eq_false (by omega)
  · rw [if_neg (by assumption)]
    have := of_decide_eq_true h1
    exact decide_eq_false (by omega)
theorem srt_ins {x : AO} : ∀ {ps : List AO}, Srt x.2.s ps → Srt x.2.s (ins x ps)
  | [], _ => by
    show Srt x.2.s [x]
    exact List.pairwise_cons.mpr ⟨fun _ z => (by cases z), List.Pairwise.nil⟩
  | y :: r, h => by
    obtain ⟨h1, h2⟩ := List.pairwise_cons.mp h
    rw [ins_cons]
    split
    · rename_i c
      refine List.pairwise_cons.mpr ⟨fun w hw => ?_, h⟩
      rcases List.mem_cons.mp hw with rfl | hw
      · exact ahead_as c
      · exact ahead_as (ahead_tr c (h1 w hw))
    · rename_i c
      refine List.pairwise_cons.mpr ⟨fun w hw => ?_, srt_ins h2⟩
      rcases mem_ins hw with rfl | hw
      · simpa using c
      · exact h1 w hw
theorem slice_to {x : Str} {j : Int} (h0 : 0 ≤ j) (h1 : j ≤ (x.length : Int)) : Txt.slice x none (some j) = ⟨(x.cps.toList.take j.toNat).toArray⟩ := by
  have e : x.cps.toList.length = x.length := Array.length_toList
  have := eq_of_beq (PyProof.Rows.slice_closes_to (x := x) (j := j) ⟨h0, by rw [e]; exact h1⟩)
  rw [this, Int.toNat_zero, List.drop_zero, Int.sub_zero]
theorem name_at {W : Str} {a b : Int} {c : Nat} {B : Str} (hW : W.length = 12) (ha : 0 ≤ a) (hb : 0 ≤ b) (hab : a + b ≤ 12) : ((Txt.slice (Txt.slice W none (some (a + b))) none (some a) ++ Str.mk #[c]) ++ B).cps.toList[a.toNat]? = some c := by
  have e1 : (Txt.slice W none (some (a + b))).length = (a + b).toNat := by
    rw [slice_to (by omega) (by omega)]
    show (List.take _ _).toArray.size = _
    rw [List.size_toArray, List.length_take, Array.length_toList]
    have : W.cps.size = 12 := hW
    omega
  have e2 : (Txt.slice (Txt.slice W none (some (a + b))) none (some a)).cps.toList.length = a.toNat := by
    rw [slice_to (by omega) (by omega)]
    show (List.take _ _).toArray.toList.length = _
    rw [List.length_take, Array.length_toList]
    have : (Txt.slice W none (some (a + b))).cps.size = (a + b).toNat := e1
    omega
  rw [PyProof.Rows.cps_toList_append, PyProof.Rows.cps_toList_append, List.append_assoc, List.getElem?_append_right (by omega), e2, Nat.sub_self]
  rfl
theorem let_inj : ((List.range 26).all fun i => (List.range 26).all fun j => !decide (LET.cps.getD i 0 = LET.cps.getD j 0) || decide (i = j)) = true := by decide +kernel
def Tell (a : Int) (z : Str) (k : Nat) : Prop := z.cps.toList[(a % 12).toNat]? = some (LET.cps.getD k 0)
theorem tell_ne {a : Int} {z y : Str} {j k : Nat} (h1 : Tell a z j) (h2 : Tell a y k) (hj : j < 26) (hk : k < 26) (hne : j ≠ k) : z ≠ y := by
  rintro rfl
  have e : LET.cps.getD j 0 = LET.cps.getD k 0 := Option.some.inj (h1.symm.trans h2)
  have m1 := List.all_eq_true.mp (List.all_eq_true.mp let_inj j (List.mem_range.mpr hj)) k (List.mem_range.mpr hk)
  rw [e] at m1
  simp at m1
  exact hne m1
theorem mu_16 {x : Od} (h : Szd x.l x.sh x.pk) : mu x ≤ 16 := by
  obtain ⟨a, b, c, d, e, f, g⟩ := h
  unfold mu
  split
  · omega
  · rename_i hp
    have : (x.l - x.sh + x.pk - 1) / x.pk < 16 := Int.ediv_lt_of_lt_mul (by omega) (by omega)
    omega
theorem okO_szd {x : Od} (h : Szd x.l x.sh x.pk) : OkO x := ⟨h.1, h.2.1, h.2.2.2.1, h.2.2.2.2.1⟩
theorem muS_le : ∀ {os : List Od}, (∀ x ∈ os, mu x ≤ 16) → muS os ≤ 16 * os.length
  | [], _ => Nat.zero_le _
  | x :: r, h => by
    rw [muS_cons, List.length_cons]
    have := h x List.mem_cons_self
    have := muS_le (os := r) fun y hy => h y (List.mem_cons_of_mem _ hy)
    omega
theorem ins_nd {x : AO} {ps : List AO} (h : (ps.map fun y => y.2.n).Nodup) (hn : x.2.n ∉ ps.map fun y => y.2.n) : ((ins x ps).map fun y => y.2.n).Nodup := by
  have hp : (ins x ps).Perm (x :: ps) := by
    unfold ins
    refine List.perm_middle.trans (.cons _ ?_)
    rw [List.take_append_drop]
  refine (hp.map fun y => y.2.n).nodup_iff.mpr ?_
  exact List.nodup_cons.mpr ⟨hn, h⟩

def gi (T : List Int) (i : Nat) : Int := T.getD i 0
theorem gi_set {T : List Int} {i j : Nat} {v : Int} (h : i < T.length) : gi (T.set i v) j = if i = j then v else gi T j := by
  unfold gi
  rw [List.getD_eq_getElem?_getD, List.getElem?_set]
  by_cases e : i = j
  · subst e
    rw [if_pos rfl, if_pos h, if_pos rfl]
    rfl
  · rw [if_neg e, if_neg e, List.getD_eq_getElem?_getD]
theorem gi_get {T : List Int} {i : Nat} (h : i < T.length) : (T.map V.int)[i]? = some (V.int (gi T i)) := by
  unfold gi
  rw [List.getElem?_map, List.getD_eq_getElem?_getD, List.getElem?_eq_getElem h]
  rfl
theorem look_shun {o x : Od} {last leap : Int} (h : lookS o x last leap = "shun") : x.w = o.w := by
  unfold lookS at h
  by_cases c1 : aheadB o.s x.pr o.pr = true
  · rw [if_pos c1] at h; exact absurd h s_es
  rw [if_neg c1] at h
  by_cases c2 : x.w = o.w
  · exact c2
  rw [if_neg c2] at h
  by_cases c3 : leap < absI (x.pr - last)
  · rw [if_pos c3] at h; exact absurd h s_hs
  · rw [if_neg c3] at h; exact absurd h.symm s_st
theorem look_trade {o x : Od} {last leap : Int} (h : lookS o x last leap = "trade") : ¬ x.w = o.w := by
  unfold lookS at h
  by_cases c1 : aheadB o.s x.pr o.pr = true
  · rw [if_pos c1] at h; exact absurd h s_et
  rw [if_neg c1] at h
  by_cases c2 : x.w = o.w
  · rw [if_pos c2] at h; exact absurd h s_st
  · exact c2
def trN (o : Od) (os : List Od) (W : List Int) : Nat → Int
  | 0 => 0
  | i + 1 => trN o os W i + (match os[i]? with | some y => if y.w = o.w then 0 else gi W i | none => 0)
theorem trN_set {o y : Od} {os : List Od} {W : List Int} {k : Nat} {v : Int} (hk : os[k]? = some y) (hw : k < W.length) : ∀ i, trN o os (W.set k v) i = trN o os W i + (if k < i ∧ ¬ y.w = o.w then v - gi W k else 0)
  | 0 => by rw [if_neg (by omega)]; rfl
  | i + 1 => by
    unfold trN
    rw [trN_set hk hw i, gi_set hw]
    by_cases e : k = i
    · subst e
      rw [hk, if_neg (show ¬ (k < k ∧ ¬ y.w = o.w) by omega), if_pos rfl]
      by_cases c : y.w = o.w
      · simp only [if_pos c]
        rw [if_neg (by intro z; exact z.2 c)]
        all_goals omega
      · simp only [if_neg c]
        rw [if_pos ⟨Nat.lt_succ_self _, c⟩]
        omega
    · rw [if_neg e]
      by_cases c : k < i ∧ ¬ y.w = o.w
      · rw [if_pos c, if_pos ⟨by omega, c.2⟩]
        omega
      · rw [if_neg c, if_neg (by intro z; exact c ⟨by omega, z.2⟩)]
        omega
structure GJ (o : Od) (os : List Od) (W : List Int) (lf : Int) (gs : List (Nat × Od)) : Prop where
  lw : W.length = os.length
  ent : ∀ e ∈ gs, ∃ y, os[e.1]? = some y ∧ y.n = e.2.n ∧ y.w = e.2.w ∧ y.s = e.2.s ∧ y.pr = e.2.pr ∧ y.pk = e.2.pk ∧ y.l = e.2.l + gi W e.1 ∧ OkO e.2
  all : ∀ i y, os[i]? = some y → gi W i < y.l → ∃ x, (i, x) ∈ gs
  le : ∀ i y, os[i]? = some y → gi W i ≤ y.l
  own : ∀ e ∈ gs, e.2.w = o.w → gi W e.1 = 0
  nd : (gs.map (·.1)).Nodup
  sum : lf + trN o os W os.length = o.l
  nn : 0 ≤ lf
theorem GJ.perm {o : Od} {os : List Od} {W : List Int} {lf : Int} {gs gs' : List (Nat × Od)} (G : GJ o os W lf gs) (p : gs'.Perm gs) : GJ o os W lf gs' :=
  ⟨G.lw, fun e he => G.ent e (p.mem_iff.mp he), fun i y h1 h2 => (G.all i y h1 h2).imp fun x hx => p.mem_iff.mpr hx, G.le, fun e he => G.own e (p.mem_iff.mp he), (p.map _).nodup_iff.mpr G.nd, G.sum, G.nn⟩
theorem GJ.ne {o : Od} {os : List Od} {W : List Int} {lf : Int} {e : Nat × Od} {gr : List (Nat × Od)} (G : GJ o os W lf (e :: gr)) {f : Nat × Od} (hf : f ∈ gr) : e.1 ≠ f.1 := fun z => by
  have := G.nd
  rw [List.map_cons] at this
  exact (List.nodup_cons.mp this).1 (by rw [z]; exact List.mem_map.mpr ⟨f, hf, rfl⟩)
theorem GJ.pop {o : Od} {os : List Od} {W : List Int} {lf lf2 : Int} {e : Nat × Od} {gr : List (Nat × Od)} (G : GJ o os W lf (e :: gr)) {y : Od} {a : Int} (hy : os[e.1]? = some y) (ha : gi W e.1 + a = y.l) (hl : lf2 + (if y.w = o.w then 0 else a) = lf) (hn : 0 ≤ lf2) :
    GJ o os (W.set e.1 (gi W e.1 + a)) lf2 gr := by
  have hlt : e.1 < os.length := (List.getElem?_eq_some_iff.mp hy).1
  have hw : e.1 < W.length := by rw [G.lw]; exact hlt
  have gw : ∀ f ∈ gr, gi (W.set e.1 (gi W e.1 + a)) f.1 = gi W f.1 := fun f hf => by rw [gi_set hw, if_neg (G.ne hf)]
  refine ⟨by rw [List.length_set]; exact G.lw, fun f hf => ?_, fun i x hx hl => ?_, fun i x hx => ?_, fun f hf z => ?_, ?_, ?_, hn⟩
  · obtain ⟨yf, r⟩ := G.ent f (List.mem_cons_of_mem _ hf)
    refine ⟨yf, ?_⟩
    rw [gw f hf]
    exact r
  · rw [gi_set hw] at hl
    by_cases ei : e.1 = i
    · subst ei
      rw [if_pos rfl, ha] at hl
      have : y = x := Option.some.inj (hy.symm.trans hx)
      rw [this] at hl
      omega
    · rw [if_neg ei] at hl
      obtain ⟨x', hm⟩ := G.all i x hx hl
      rcases List.mem_cons.mp hm with z | hm
      · exact absurd (by rw [← z]) ei
      · exact ⟨x', hm⟩
  · rw [gi_set hw]
    by_cases ei : e.1 = i
    · subst ei
      rw [if_pos rfl, ha]
      have : y = x := Option.some.inj (hy.symm.trans hx)
      rw [this]
      omega
    · rw [if_neg ei]; exact G.le i x hx
  · rw [gw f hf]
    exact G.own f (List.mem_cons_of_mem _ hf) z
  · have := G.nd
    rw [List.map_cons] at this
    exact (List.nodup_cons.mp this).2
  · rw [trN_set hy hw]
    have := G.sum
    by_cases c : y.w = o.w
    · rw [if_pos c] at hl
      rw [if_neg (by intro z; exact z.2 c)]
      omega
    · rw [if_neg c] at hl
      rw [if_pos ⟨hlt, c⟩]
      omega
theorem GJ.fill {o : Od} {os : List Od} {W : List Int} {lf : Int} {e : Nat × Od} {gr : List (Nat × Od)} (G : GJ o os W lf (e :: gr)) {y : Od} {am : Int} (hy : os[e.1]? = some y) (how : ¬ y.w = o.w) (h1 : 1 ≤ am) (h2 : am ≤ e.2.sh) (h3 : e.2.l ≠ am) (hn : am ≤ lf) :
    GJ o os (W.set e.1 (gi W e.1 + am)) (lf - am) ((e.1, behO e.2 am) :: gr) := by
  have hlt : e.1 < os.length := (List.getElem?_eq_some_iff.mp hy).1
  have hw : e.1 < W.length := by rw [G.lw]; exact hlt
  have gw : ∀ f ∈ gr, gi (W.set e.1 (gi W e.1 + am)) f.1 = gi W f.1 := fun f hf => by rw [gi_set hw, if_neg (G.ne hf)]
  have gwe : gi (W.set e.1 (gi W e.1 + am)) e.1 = gi W e.1 + am := by rw [gi_set hw, if_pos rfl]
  obtain ⟨ye, he1, he2, he3, he4, he5, he6, he7, he8⟩ := G.ent e List.mem_cons_self
  have hye : ye = y := Option.some.inj (he1.symm.trans hy)
  subst hye
  refine ⟨by rw [List.length_set]; exact G.lw, fun f hf => ?_, fun i x hx hl => ?_, fun i x hx => ?_, fun f hf z => ?_, ?_, ?_, by omega⟩
  · rcases List.mem_cons.mp hf with rfl | hf
    · refine ⟨ye, hy, he2, he3, he4, he5, he6, ?_, okO_beh he8 h1 h2 h3⟩
      rw [gwe]
      show ye.l = (e.2.l - am) + _
      omega
    · obtain ⟨yf, r⟩ := G.ent f (List.mem_cons_of_mem _ hf)
      refine ⟨yf, ?_⟩
      rw [gw f hf]
      exact r
  · by_cases ei : e.1 = i
    · subst ei
      exact ⟨_, List.mem_cons_self⟩
    · rw [gi_set hw, if_neg ei] at hl
      obtain ⟨x', hm⟩ := G.all i x hx hl
      rcases List.mem_cons.mp hm with z | hm
      · exact absurd (by rw [← z]) ei
      · exact ⟨x', List.mem_cons_of_mem _ hm⟩
  · rw [gi_set hw]
    by_cases ei : e.1 = i
    · subst ei
      rw [if_pos rfl]
      have : ye = x := Option.some.inj (hy.symm.trans hx)
      subst this
      obtain ⟨k1, k2, _⟩ := he8
      omega
    · rw [if_neg ei]; exact G.le i x hx
  · rcases List.mem_cons.mp hf with rfl | hf
    · exact absurd (he3.trans z) how
    · rw [gw f hf]
      exact G.own f (List.mem_cons_of_mem _ hf) z
  · exact G.nd
  · rw [trN_set hy hw, if_pos ⟨hlt, how⟩]
    have := G.sum
    omega
theorem GJ.start {o : Od} {os : List Od} (ho : 0 ≤ o.l) (hok : ∀ x ∈ os, OkO x) : GJ o os (List.replicate os.length 0) o.l ((List.range os.length).zip os) := by
  have g0 : ∀ i, gi (List.replicate os.length 0) i = 0 := fun i => by
    unfold gi
    rw [List.getD_eq_getElem?_getD, List.getElem?_replicate]
    split <;> rfl
  have zl : ((List.range os.length).zip os).length = os.length := by rw [List.length_zip, List.length_range, Nat.min_self]
  have zg : ∀ (j : Nat) (h : j < ((List.range os.length).zip os).length), ((List.range os.length).zip os)[j] = (j, os[j]'(by rw [zl] at h; exact h)) := fun j h => by
    rw [List.getElem_zip, List.getElem_range]
  have t0 : ∀ i, trN o os (List.replicate os.length 0) i = 0 := fun i => by
    induction i with
    | zero => rfl
    | succ i ih =>
      unfold trN
      rw [ih, g0]
      cases os[i]? with
      | none => rfl
      | some y => show 0 + (if y.w = o.w then 0 else 0) = 0; split <;> rfl
  refine ⟨List.length_replicate, fun e he => ?_, fun i y hi _ => ?_, fun i y hi => ?_, fun e he _ => g0 _, ?_, by rw [t0]; omega, ho⟩
  · obtain ⟨j, hj, rfl⟩ := List.mem_iff_getElem.mp he
    have hj' : j < os.length := by rw [zl] at hj; exact hj
    rw [zg j hj]
    refine ⟨os[j], List.getElem?_eq_getElem hj', rfl, rfl, rfl, rfl, rfl, by rw [g0]; exact (Int.add_zero _).symm, hok _ (List.getElem_mem hj')⟩
  · obtain ⟨hi', rfl⟩ := List.getElem?_eq_some_iff.mp hi
    refine ⟨os[i], ?_⟩
    have hz : i < ((List.range os.length).zip os).length := by rw [zl]; exact hi'
    rw [← zg i hz]
    exact List.getElem_mem hz
  · rw [g0]
    obtain ⟨k1, k2, _⟩ := hok y (List.mem_of_getElem? hi)
    omega
  · rw [List.map_fst_zip (by rw [List.length_range]; exact Nat.le_refl _)]
    exact List.nodup_range
theorem look_near {o x : Od} {last leap : Int} (h : lookS o x last leap = "trade") : ¬ leap < absI (x.pr - last) := fun c => by
  unfold lookS at h
  by_cases c1 : aheadB o.s x.pr o.pr = true
  · rw [if_pos c1] at h; exact absurd h s_et
  rw [if_neg c1] at h
  by_cases c2 : x.w = o.w
  · rw [if_pos c2] at h; exact absurd h s_st
  rw [if_neg c2, if_pos c] at h
  exact absurd h s_ht
theorem look_allows {o x : Od} {last leap : Int} (h : lookS o x last leap = "trade" ∨ lookS o x last leap = "shun") : aheadB o.s x.pr o.pr = false := by
  rw [← Bool.not_eq_true]
  intro c
  unfold lookS at h
  rw [if_pos c] at h
  rcases h with h | h
  · exact s_et h
  · exact s_es h
theorem GJ.step {o : Od} {os : List Od} {W : List Int} {gs : List (Nat × Od)} {last leap lf : Int} {sv : List V} {rest : List (List V)} {os' : List Od} {lf' : Int} {hb : Bool} (G : GJ o os W lf gs) (m : Met o last leap lf (gs.map (·.2)) (sv :: rest) os' lf' hb) :
    ∃ (i : Nat) (y : Od) (amt : Int), os[i]? = some y ∧ aheadB o.s y.pr o.pr = false ∧ ((sv = [.str "shun", .str y.n, .int y.l] ∧ amt = y.l ∧ y.w = o.w) ∨ (sv = [.str "trade", .str y.n, .int y.pr, .int amt] ∧ 1 ≤ amt ∧ ¬ y.w = o.w ∧ ¬ leap < absI (y.pr - last))) ∧
      ∃ lf2 gs2, GJ o os (W.set i (gi W i + amt)) lf2 gs2 ∧ Met o last leap lf2 (gs2.map (·.2)) rest os' lf' hb := by
  cases gs with
  | nil => cases m
  | cons e gr =>
    obtain ⟨y, h1, h2, h3, h4, h5, h6, h7, h8⟩ := G.ent e List.mem_cons_self
    rw [List.map_cons] at m
    cases m with
    | shun a b c =>
      have ew := look_shun b
      have w0 := G.own e List.mem_cons_self ew
      have hl : y.l = e.2.l := by rw [h7, w0]; omega
      have eyw : y.w = o.w := h3.trans ew
      refine ⟨e.1, y, y.l, h1, by rw [h5]; exact look_allows (.inr b), .inl ⟨by rw [h2, hl], rfl, eyw⟩, lf, gr, G.pop h1 (by omega) (by rw [if_pos eyw]; omega) G.nn, c⟩
    | trade a b c =>
      have ew : ¬ y.w = o.w := by rw [h3]; exact look_trade b
      have nr : ¬ leap < absI (y.pr - last) := by rw [h5]; exact look_near b
      have al : aheadB o.s y.pr o.pr = false := by rw [h5]; exact look_allows (.inl b)
      obtain ⟨k1, k2, k3, k4⟩ := id h8
      have hp : ∀ am : Int, am = (if e.2.sh < lf then e.2.sh else lf) → Met o last leap (lf - am) (servedO (e.2 :: gr.map (·.2)) am) rest os' lf' hb → 1 ≤ am ∧ ∃ lf2 gs2, GJ o os (W.set e.1 (gi W e.1 + am)) lf2 gs2 ∧ Met o last leap lf2 (gs2.map (·.2)) rest os' lf' hb := fun am ham c => by
        have b1 : 1 ≤ am := by rw [ham]; split <;> omega
        have b2 : am ≤ e.2.sh := by rw [ham]; split <;> omega
        have b3 : am ≤ lf := by rw [ham]; split <;> omega
        refine ⟨b1, lf - am, ?_⟩
        rw [servedO_cons] at c
        by_cases c1 : e.2.l = am
        · rw [if_pos c1] at c
          exact ⟨gr, G.pop h1 (by omega) (by rw [if_neg ew]; omega) (by omega), c⟩
        rw [if_neg c1] at c
        have Gf := G.fill h1 ew b1 b2 c1 b3
        by_cases c2 : e.2.sh = am ∧ am < e.2.l
        · rw [if_pos c2] at c
          refine ⟨gr.take (placeO e.2.s e.2.pr (gr.map (·.2))) ++ (e.1, behO e.2 am) :: gr.drop (placeO e.2.s e.2.pr (gr.map (·.2))), Gf.perm ?_, ?_⟩
          · refine List.perm_middle.trans (.cons _ ?_)
            rw [List.take_append_drop]
          · rw [List.map_append, List.map_cons, List.map_take, List.map_drop]
            exact c
        · rw [if_neg c2] at c
          exact ⟨_, Gf, c⟩
      obtain ⟨b1, z⟩ := hp _ rfl c
      exact ⟨e.1, y, _, h1, al, .inr ⟨by rw [h2, h5], b1, ew, nr⟩, z⟩
theorem ixN_nat {n j : Nat} (h : j < n) : ixN n (j : Int) = some j := by
  unfold ixN
  rw [if_pos (by omega), if_pos (by omega)]
  rfl
theorem set_ints (T : List Int) (i : Nat) (v : Int) : (T.map V.int).set i (.int v) = (T.set i v).map V.int := (List.map_set ..).symm
theorem od_get {ps : List AO} {i : Nat} {y : Od} (h : (ps.map (·.2))[i]? = some y) : ∃ p : AO, ps[i]? = some p ∧ p.2 = y ∧ p ∈ ps := by
  rw [List.getElem?_map] at h
  cases e : ps[i]? with
  | none => rw [e] at h; cases h
  | some p => rw [e] at h; exact ⟨p, rfl, Option.some.inj h, List.mem_of_getElem? e⟩
theorem Met.len {o : Od} {last leap lf : Int} {os os' : List Od} {ss : List (List V)} {lf' : Int} {h : Bool} (m : Met o last leap lf os ss os' lf' h) : os'.length ≤ os.length := by
  induction m with
  | stop _ => exact Nat.le_refl _
  | fin _ _ => exact Nat.le_refl _
  | halt _ _ => exact Nat.le_refl _
  | shun _ _ _ ih => rw [List.length_cons]; omega
  | @trade lf x r ss os' lf' h _ _ _ ih =>
    have := served_len (x := x) (r := r) (am := if x.sh < lf then x.sh else lf)
    rw [List.length_cons]
    omega
theorem Met.nil_end {o : Od} {last leap lf : Int} {os os' : List Od} {lf' : Int} {h : Bool} (m : Met o last leap lf os [] os' lf' h) : os' = os ∧ lf' = lf := by
  cases m <;> exact ⟨rfl, rfl⟩

theorem q_true {Q : VK} {p : Prop} [Decidable p] {H : Hp} (h : p) (q : Q (.bl true) H) : Q (.bl (decide p)) H := by
  rw [decide_eq_true h]
  exact q
theorem valV_none {kvs : List (Key × V)} {k : Key} (h : ∀ p ∈ kvs, p.1 ≠ k) : valV kvs k = none := by
  unfold valV
  rw [List.find?_eq_none.mpr fun p hp => by simpa using h p hp]
  rfl
theorem valV_one {kvs : List (Key × V)} {k : Key} {v : V} (hm : (k, v) ∈ kvs) (h : ∀ p ∈ kvs, p.1 = k → p.2 = v) : valV kvs k = some v := by
  unfold valV
  cases e : kvs.find? fun kv => decide (kv.1 = k) with
  | none => exact absurd (List.find?_eq_none.mp e (k, v) hm) (by simp)
  | some p =>
    have h1 := List.find?_some e
    have h2 := List.mem_of_find?_eq_some e
    show some p.2 = some v
    rw [h p h2 (by simpa using h1)]
theorem putK_new {kvs : List (Key × V)} {k : Key} {v : V} (h : ∀ p ∈ kvs, p.1 ≠ k) : putK kvs k v = kvs ++ [(k, v)] := by
  unfold putK
  rw [if_neg]
  intro z
  obtain ⟨p, hp, e⟩ := List.any_eq_true.mp z
  exact h p hp (by simpa using e)
def kvO (x : AO) : Key × V := (Sum.inr x.2.n, rf x)
def kvZ (z : (Nat × Od) × AO) : Key × V := kvO z.2
theorem rf_at2 {ps : List AO} {i : Nat} {p : AO} (h : ps[i]? = some p) : atI (ps.map rf) (i : Int) = some (rf p) := atI_nat (by rw [List.getElem?_map, h]; rfl)
theorem od_of {ps : List AO} {i : Nat} {p : AO} (h : ps[i]? = some p) : (ps.map (·.2))[i]? = some p.2 := by rw [List.getElem?_map, h]; rfl
theorem names_inj {ps : List AO} (hnd : (ps.map fun x => x.2.n).Nodup) {i j : Nat} {x y : AO} (hi : ps[i]? = some x) (hj : ps[j]? = some y) (e : x.2.n = y.2.n) : i = j := by
  obtain ⟨hi', rfl⟩ := List.getElem?_eq_some_iff.mp hi
  obtain ⟨hj', rfl⟩ := List.getElem?_eq_some_iff.mp hj
  have := List.nodup_iff_pairwise_ne.mp hnd
  rw [List.pairwise_map, List.pairwise_iff_getElem] at this
  rcases Nat.lt_trichotomy i j with h | h | h
  · exact absurd e (this i j hi' hj' h)
  · exact h
  · exact absurd e.symm (this j i hj' hi' h)
theorem GJ.name {o : Od} {ps : List AO} {W : List Int} {lf : Int} {gs : List (Nat × Od)} (G : GJ o (ps.map (·.2)) W lf gs) (hnd : (ps.map fun x => x.2.n).Nodup) {e : Nat × Od} (he : e ∈ gs) {k : Nat} {y : AO} (hk : ps[k]? = some y) (en : e.2.n = y.2.n) : e.1 = k := by
  obtain ⟨ye, h1, h2, _⟩ := G.ent e he
  obtain ⟨yp, hyp, rfl, _⟩ := od_get h1
  exact names_inj hnd hyp hk (h2.trans en)

section
variable {P : Program} {w : World} {K : PySem.W.Frag} {mg : Str → Option Value} {base : Heap}
seal PySem.wpAny
theorem sc_checked_number : FnScope ["number", "low", "high"] ["number", "low", "high"] (defScope (top 6)) := ⟨rfl, rfl, rfl, by decide +kernel, rfl, by decide +kernel, by decide +kernel⟩
def sp_checked_number (C : Addr) : Sp := fun vs H Q E => ∃ (n lo hi : Int), vs = [.int n, .int lo, .int hi] ∧ (if lo ≤ n ∧ n ≤ hi then Q (.int n) H else E (.ref C) none H)
theorem ok_checked_number (d_checked_number : Dv K mg "checked_number" (top 6) ["number", "low", "high"]) (B : Bl mg) (C : Co mg) (R : Er K mg)  : FnOk P w K mg base (CXb P w) 1 d_checked_number.f d_checked_number.fd ["number", "low", "high"] (sp_checked_number R.c_BadNumber) := by
  refine d_checked_number.F.okx sc_checked_number (fun vs H Q E h => ?_) (fun cdv A outer s H vs Q E hr h => ?_)
  · obtain ⟨_, _, _, rfl, _⟩ := h; rfl
  obtain ⟨n, lo, hi, rfl, q⟩ := h
  refine ⟨_, (pss_cons (ps_if (PW.pt (pw_or (pt_cmpR op_lt (pv 0) (pv 1) (nomark _)) (pw_or1 (pt_cmpR op_gt (pv 0) (pv 2) (nomark _))))) (pss_one (ps_raise raises_fn rfl rfl R.m_BadNumber R.x_BadNumber (pa_cons pe_str pa_nil))) pss_nil) (pss_one (ps_ret (pv 0)))), ?_⟩
  refine ⟨_, rfl, _, rfl, _, _, rfl, rfl, _, rfl, ?_⟩
  refine ite2 (fun c => ?_) (fun c => ?_)
  · have c' : n < lo := by simpa using c
    rw [if_neg (by omega)] at q
    exact iteT ⟨by walk_at "sz", q⟩
  · have c' : ¬ n < lo := by simpa using c
    refine ⟨_, rfl, _, rfl, _, _, rfl, rfl, _, rfl, ?_⟩
    refine ite2 (fun c2 => ?_) (fun c2 => ?_)
    · have c3 : hi < n := by simpa using c2
      rw [if_neg (by omega)] at q
      exact ⟨by walk_at "sz", q⟩
    · have c3 : ¬ hi < n := by simpa using c2
      rw [if_pos (by omega)] at q
      exact ⟨_, rfl, q⟩
theorem sc_shown_anew : FnScope ["left", "peak"] ["left", "peak"] (defScope (top 20)) := ⟨rfl, rfl, rfl, by decide +kernel, rfl, by decide +kernel, by decide +kernel⟩
def sp_shown_anew (K : PySem.W.Frag) : Sp := fun vs H Q _ => ∃ (l pk : Int), vs = [.int l, .int pk] ∧ Q (.int (shw l pk)) H
theorem ok_shown_anew (d_shown_anew : Dv K mg "shown_anew" (top 20) ["left", "peak"]) (B : Bl mg) (C : Co mg) (R : Er K mg)  : FnOk P w K mg base CX0 1 d_shown_anew.f d_shown_anew.fd ["left", "peak"] (sp_shown_anew K) := by
  refine d_shown_anew.F.ok sc_shown_anew (fun vs H Q E h => ?_) (fun cdv A outer s H vs Q E hr h => ?_)
  · obtain ⟨_, _, rfl, _⟩ := h; rfl
  obtain ⟨l, pk, rfl, q⟩ := h
  refine ⟨_, (pss_cons (ps_if (pt_cmpR op_eq (pv 1) pe_int (nomark _)) (pss_one (ps_ret (pv 0))) pss_nil) (pss_one (ps_ret (pe_callB (call_min2 rfl) rfl B.b_min PyProof.Rows.boot_min (pa_cons (pv 1) (pa_cons (pv 0) pa_nil)))))), ?_⟩
  unfold shw at q
  refine ⟨_, rfl, rfl, _, rfl, ?_⟩
  refine ite2 (fun c => ?_) (fun c => ?_)
  · rw [if_pos (show pk = 0 by simpa using c)] at q
    exact ⟨_, rfl, q⟩
  · rw [if_neg (show ¬ pk = 0 by simpa using c)] at q
    exact ⟨_, rfl, _, rfl, _, _, rfl, q⟩
theorem sc_with_parts : FnScope ["order", "left", "shown"] ["order", "left", "shown"] (defScope (top 21)) := ⟨rfl, rfl, rfl, by decide +kernel, rfl, by decide +kernel, by decide +kernel⟩
def sp_with_parts (K : PySem.W.Frag) : Sp := fun vs H Q _ => ∃ (o : Addr) (n w s : Str) (pr l sh pk l' sh' : Int), vs = [.ref o, .int l', .int sh'] ∧ H o = some (.tup (ordV n w s pr l sh pk)) ∧ ∀ H' t, Same H H' → H' t = some (.tup (ordV n w s pr l' sh' pk)) → Q (.ref t) H'
theorem ok_with_parts (d_with_parts : Dv K mg "with_parts" (top 21) ["order", "left", "shown"]) (B : Bl mg) (C : Co mg) (R : Er K mg)  : FnOk P w K mg base CX0 1 d_with_parts.f d_with_parts.fd ["order", "left", "shown"] (sp_with_parts K) := by
  refine d_with_parts.F.ok sc_with_parts (fun vs H Q E h => ?_) (fun cdv A outer s H vs Q E hr h => ?_)
  · obtain ⟨_, _, _, _, _, _, _, _, _, _, rfl, _⟩ := h; rfl
  obtain ⟨o, n, w0, s0, pr, l, sh, pk, l', sh', rfl, ho, q⟩ := h
  refine ⟨_, (pss_one (ps_ret (pe_op op_catT (pe_slice sl_tup (pv 0) po_none (po_some (pe_glob (v := .int 4) rfl C.m_LEFT ⟨_, rfl⟩))) (pe_tup (pa_cons (pv 1) (pa_cons (pv 2) (pa_cons (pe_ix ix_tup (pv 0) (pe_glob (v := .int 6) rfl C.m_PEAK ⟨_, rfl⟩) (fun _ _ => rfl)) pa_nil))))))), ?_⟩
  refine ⟨_, rfl, _, rfl, o, _, rfl, .inl (.inl ho), ord_cut _ _ _ _ _ _ _, fun p hp => ?_⟩
  refine ⟨_, rfl, _, rfl, _, rfl, o, _, _, _, rfl, rfl, .inl (.inl (at_upd ho hp)), rfl, by walk_at "sz", fun t2 ht2 => ?_⟩
  refine ⟨p, t2, _, _, rfl, rfl, .inl (.inl (at_upd upd_same ht2)), .inl (.inl upd_same), (by intro z; cases z), by walk_at "sz", (by intro z; cases z), fun _ t ht => ?_⟩
  exact q _ t (same_upd' (same_upd' (same_upd hp) ht2) ht) upd_same
theorem sc_fresh : FnScope ["order", "left"] ["order", "left"] (defScope (top 15)) := ⟨rfl, rfl, rfl, by decide +kernel, rfl, by decide +kernel, by decide +kernel⟩
def sp_fresh (K : PySem.W.Frag) : Sp := fun vs H Q _ => ∃ (o : Addr) (n w s : Str) (pr l sh pk l' : Int), vs = [.ref o, .int l'] ∧ H o = some (.tup (ordV n w s pr l sh pk)) ∧ ∀ H' t, Same H H' → H' t = some (.tup (ordV n w s pr l' (shw l' pk) pk)) → Q (.ref t) H'
theorem ok_fresh (d_fresh : Dv K mg "fresh" (top 15) ["order", "left"]) (B : Bl mg) (C : Co mg) (R : Er K mg) (d_with_parts : Dv K mg "with_parts" (top 21) ["order", "left", "shown"]) (G_with_parts : FnOk P w K mg base CX0 1 d_with_parts.f d_with_parts.fd ["order", "left", "shown"] (sp_with_parts K)) (d_shown_anew : Dv K mg "shown_anew" (top 20) ["left", "peak"]) (G_shown_anew : FnOk P w K mg base CX0 1 d_shown_anew.f d_shown_anew.fd ["left", "peak"] (sp_shown_anew K)) : FnOk P w K mg base CX0 2 d_fresh.f d_fresh.fd ["order", "left"] (sp_fresh K) := by
  refine d_fresh.F.ok sc_fresh (fun vs H Q E h => ?_) (fun cdv A outer s H vs Q E hr h => ?_)
  · obtain ⟨_, _, _, _, _, _, _, _, _, rfl, _⟩ := h; rfl
  obtain ⟨o, n, w0, s0, pr, l, sh, pk, l', rfl, ho, q⟩ := h
  refine ⟨_, (pss_one (ps_ret (pe_call G_with_parts (hr.mono (by decide)) rfl d_with_parts.m d_with_parts.F.kp d_with_parts.b .nil pass0 (pa_cons (pv 0) (pa_cons (pv 1) (pa_cons (pe_call G_shown_anew (hr.mono (by decide)) rfl d_shown_anew.m d_shown_anew.F.kp d_shown_anew.b .nil pass0 (pa_cons (pv 1) (pa_cons (pe_ix ix_tup (pv 0) (pe_glob (v := .int 6) rfl C.m_PEAK ⟨_, rfl⟩) (fun _ _ => rfl)) pa_nil))) pa_nil)))))), ?_⟩
  exact ⟨_, rfl, _, rfl, _, rfl, _, rfl, o, _, _, _, rfl, rfl, .inl (.inl ho), rfl, _, _, rfl, o, n, w0, s0, pr, l, sh, pk, l', _, rfl, ho, q⟩
theorem sc_renews : FnScope ["order", "amount"] ["order", "amount"] (defScope (top 17)) := ⟨rfl, rfl, rfl, by decide +kernel, rfl, by decide +kernel, by decide +kernel⟩
def sp_renews (K : PySem.W.Frag) : Sp := fun vs H Q _ => ∃ (o : Addr) (n w s : Str) (pr l sh pk am : Int), vs = [.ref o, .int am] ∧ H o = some (.tup (ordV n w s pr l sh pk)) ∧ Q (.bl (decide (sh = am) && decide (am < l))) H
theorem ok_renews (d_renews : Dv K mg "renews" (top 17) ["order", "amount"]) (B : Bl mg) (C : Co mg) (R : Er K mg)  : FnOk P w K mg base CX0 1 d_renews.f d_renews.fd ["order", "amount"] (sp_renews K) := by
  refine d_renews.F.ok sc_renews (fun vs H Q E h => ?_) (fun cdv A outer s H vs Q E hr h => ?_)
  · obtain ⟨_, _, _, _, _, _, _, _, _, rfl, _⟩ := h; rfl
  obtain ⟨o, n, w0, s0, pr, l, sh, pk, am, rfl, ho, q⟩ := h
  refine ⟨_, (pss_one (ps_ret (pe_and (pe_cmpR op_eq (pe_ix ix_tup (pv 0) (pe_glob (v := .int 5) rfl C.m_SHOWN ⟨_, rfl⟩) (fun _ _ => rfl)) (pv 1) (nomark _)) (pe_one (pe_cmpR op_gt (pe_ix ix_tup (pv 0) (pe_glob (v := .int 4) rfl C.m_LEFT ⟨_, rfl⟩) (fun _ _ => rfl)) (pv 1) (nomark _)))))), ?_⟩
  refine ⟨_, rfl, o, _, _, _, rfl, rfl, .inl (.inl ho), rfl, _, rfl, rfl, _, rfl, ?_⟩
  refine ite2 (fun c => ?_) (fun c => ?_)
  · rw [show decide (sh = am) = true from decide_eq_true (by simpa using c), Bool.true_and] at q
    exact ⟨_, rfl, o, _, _, _, rfl, rfl, .inl (.inl ho), rfl, _, rfl, _, _, rfl, rfl, q⟩
  · rw [show decide (sh = am) = false from decide_eq_false (by simpa using c), Bool.false_and] at q
    exact q
theorem sc_filled : FnScope ["order", "amount", "left"] ["order", "amount"] (defScope (top 16)) := ⟨rfl, rfl, rfl, by decide +kernel, rfl, by decide +kernel, by decide +kernel⟩
def sp_filled (C : Addr) : Sp := fun vs H Q E => ∃ (o : Addr) (n w s : Str) (pr l sh pk am : Int), vs = [.ref o, .int am] ∧ H o = some (.tup (ordV n w s pr l sh pk)) ∧ (¬ (1 ≤ am ∧ am ≤ sh) → E (.ref C) none H) ∧ (1 ≤ am → am ≤ sh → l = am → Q .non H) ∧ (1 ≤ am → am ≤ sh → l ≠ am → ∀ H' t, Same H H' → H' t = some (.tup (ordV n w s pr (l - am) (if sh = am ∧ am < l then shw (l - am) pk else sh - am) pk)) → Q (.ref t) H')
theorem ok_filled (d_filled : Dv K mg "filled" (top 16) ["order", "amount"]) (B : Bl mg) (C : Co mg) (R : Er K mg) (d_checked_number : Dv K mg "checked_number" (top 6) ["number", "low", "high"]) (G_checked_number : FnOk P w K mg base (CXb P w) 1 d_checked_number.f d_checked_number.fd ["number", "low", "high"] (sp_checked_number R.c_BadNumber)) (d_renews : Dv K mg "renews" (top 17) ["order", "amount"]) (G_renews : FnOk P w K mg base CX0 1 d_renews.f d_renews.fd ["order", "amount"] (sp_renews K)) (d_fresh : Dv K mg "fresh" (top 15) ["order", "left"]) (G_fresh : FnOk P w K mg base CX0 2 d_fresh.f d_fresh.fd ["order", "left"] (sp_fresh K)) (d_with_parts : Dv K mg "with_parts" (top 21) ["order", "left", "shown"]) (G_with_parts : FnOk P w K mg base CX0 1 d_with_parts.f d_with_parts.fd ["order", "left", "shown"] (sp_with_parts K)) : FnOk P w K mg base (CXb P w) 3 d_filled.f d_filled.fd ["order", "amount"] (sp_filled R.c_BadNumber) := by
  refine d_filled.F.okx sc_filled (fun vs H Q E h => ?_) (fun cdv A outer s H vs Q E hr h => ?_)
  · obtain ⟨_, _, _, _, _, _, _, _, _, rfl, _⟩ := h; rfl
  obtain ⟨o, n, w0, s0, pr, l, sh, pk, am, rfl, ho, qe, q0, q⟩ := h
  refine ⟨_, (pss_cons (ps_expr (pe_call G_checked_number (hr.mono (by decide)) rfl d_checked_number.m d_checked_number.F.kp d_checked_number.b .nil passes_fn (pa_cons (pv 1) (pa_cons pe_int (pa_cons (pe_ix ix_tup (pv 0) (pe_glob (v := .int 5) rfl C.m_SHOWN ⟨_, rfl⟩) (fun _ _ => rfl)) pa_nil))))) (pss_cons (ps_set (i := 2) sc_filled.nd rfl (Or.inl rfl) (pe_op op_sub (pe_ix ix_tup (pv 0) (pe_glob (v := .int 4) rfl C.m_LEFT ⟨_, rfl⟩) (fun _ _ => rfl)) (pv 1))) (pss_cons (ps_if (pt_cmpR op_eq (pv 2) pe_int (nomark _)) (pss_one (ps_ret pe_non)) pss_nil) (pss_cons (ps_if (pt_val (pe_call G_renews (hr.mono (by decide)) rfl d_renews.m d_renews.F.kp d_renews.b .nil pass0 (pa_cons (pv 0) (pa_cons (pv 1) pa_nil))) (fun _ => rfl)) (pss_one (ps_ret (pe_call G_fresh (hr.mono (by decide)) rfl d_fresh.m d_fresh.F.kp d_fresh.b .nil pass0 (pa_cons (pv 0) (pa_cons (pv 2) pa_nil))))) pss_nil) (pss_one (ps_ret (pe_call G_with_parts (hr.mono (by decide)) rfl d_with_parts.m d_with_parts.F.kp d_with_parts.b .nil pass0 (pa_cons (pv 0) (pa_cons (pv 2) (pa_cons (pe_op op_sub (pe_ix ix_tup (pv 0) (pe_glob (v := .int 5) rfl C.m_SHOWN ⟨_, rfl⟩) (fun _ _ => rfl)) (pv 1)) pa_nil)))))))))), ?_⟩
  refine ⟨_, rfl, _, rfl, o, _, _, _, rfl, rfl, .inl (.inl ho), rfl, _, _, _, rfl, ?_⟩
  by_cases h : 1 ≤ am ∧ am ≤ sh
  · rw [if_pos h]
    refine ⟨_, rfl, o, _, _, _, rfl, rfl, .inl (.inl ho), rfl, _, rfl, _, _, rfl, rfl, ?_⟩
    refine ⟨_, rfl, rfl, _, rfl, ?_⟩
    refine ite2 (fun c => ?_) (fun c => ?_)
    · have c' : l - am = 0 := by simpa using c
      exact q0 h.1 h.2 (by omega)
    · have c' : ¬ l - am = 0 := by simpa using c
      have q' := q h.1 h.2 (by omega)
      refine ⟨_, rfl, _, rfl, o, n, w0, s0, pr, l, sh, pk, am, rfl, ho, _, rfl, ?_⟩
      refine ite2 (fun c2 => ?_) (fun c2 => ?_)
      · have c3 : sh = am ∧ am < l := by simpa using c2
        rw [if_pos c3] at q'
        exact ⟨_, rfl, _, rfl, o, n, w0, s0, pr, l, sh, pk, _, rfl, ho, q'⟩
      · have c3 : ¬ (sh = am ∧ am < l) := by simpa using c2
        rw [if_neg c3] at q'
        exact ⟨_, rfl, _, rfl, _, rfl, o, _, _, _, rfl, rfl, .inl (.inl ho), rfl, _, rfl, _, _, rfl, rfl, o, n, w0, s0, pr, l, sh, pk, _, _, rfl, ho, q'⟩
  · rw [if_neg h]
    exact qe h
theorem sc_ahead : FnScope ["side", "price", "other"] ["side", "price", "other"] (defScope (top 18)) := ⟨rfl, rfl, rfl, by decide +kernel, rfl, by decide +kernel, by decide +kernel⟩
def sp_ahead (K : PySem.W.Frag) : Sp := fun vs H Q _ => ∃ (s : Str) (p o : Int), vs = [.str s, .int p, .int o] ∧ Q (.bl (aheadB s p o)) H
theorem ok_ahead (d_ahead : Dv K mg "ahead" (top 18) ["side", "price", "other"]) (B : Bl mg) (C : Co mg) (R : Er K mg)  : FnOk P w K mg base CX0 1 d_ahead.f d_ahead.fd ["side", "price", "other"] (sp_ahead K) := by
  refine d_ahead.F.ok sc_ahead (fun vs H Q E h => ?_) (fun cdv A outer s H vs Q E hr h => ?_)
  · obtain ⟨_, _, _, rfl, _⟩ := h; rfl
  obtain ⟨sd, p, o, rfl, q⟩ := h
  refine ⟨_, (pss_cons (ps_if (pt_cmpR op_eq (pv 0) pe_str (nomark _)) (pss_one (ps_ret (pe_cmpR op_gt (pv 1) (pv 2) (nomark _)))) pss_nil) (pss_one (ps_ret (pe_cmpR op_lt (pv 1) (pv 2) (nomark _))))), ?_⟩
  unfold aheadB at q
  refine ⟨_, rfl, rfl, _, rfl, ?_⟩
  refine ite2 (fun c => ?_) (fun c => ?_)
  · rw [if_pos (by simpa using c)] at q
    exact ⟨_, rfl, _, rfl, _, _, rfl, rfl, q⟩
  · rw [if_neg (by simpa using c)] at q
    exact ⟨_, rfl, _, rfl, _, _, rfl, rfl, q⟩
theorem sc_allows : FnScope ["side", "limit", "price"] ["side", "limit", "price"] (defScope (top 19)) := ⟨rfl, rfl, rfl, by decide +kernel, rfl, by decide +kernel, by decide +kernel⟩
def sp_allows (K : PySem.W.Frag) : Sp := fun vs H Q _ => ∃ (s : Str) (l p : Int), vs = [.str s, .int l, .int p] ∧ Q (.bl (!aheadB s p l)) H
theorem ok_allows (d_allows : Dv K mg "allows" (top 19) ["side", "limit", "price"]) (B : Bl mg) (C : Co mg) (R : Er K mg) (d_ahead : Dv K mg "ahead" (top 18) ["side", "price", "other"]) (G_ahead : FnOk P w K mg base CX0 1 d_ahead.f d_ahead.fd ["side", "price", "other"] (sp_ahead K)) : FnOk P w K mg base CX0 2 d_allows.f d_allows.fd ["side", "limit", "price"] (sp_allows K) := by
  refine d_allows.F.ok sc_allows (fun vs H Q E h => ?_) (fun cdv A outer s H vs Q E hr h => ?_)
  · obtain ⟨_, _, _, rfl, _⟩ := h; rfl
  obtain ⟨sd, l, p, rfl, q⟩ := h
  refine ⟨_, (pss_one (ps_ret (pe_not (pe_call G_ahead (hr.mono (by decide)) rfl d_ahead.m d_ahead.F.kp d_ahead.b .nil pass0 (pa_cons (pv 0) (pa_cons (pv 2) (pa_cons (pv 1) pa_nil))))))), ?_⟩
  exact ⟨_, rfl, _, rfl, _, rfl, sd, p, l, rfl, _, rfl, q⟩
theorem sc_names_of : FnScope ["orders"] ["orders"] (defScope (top 25)) := ⟨rfl, rfl, rfl, by decide +kernel, rfl, by decide +kernel, by decide +kernel⟩
def sp_names_of (K : PySem.W.Frag) : Sp := fun vs H Q _ => ∃ (p : Addr) (ps : List AO), vs = [.ref p] ∧ SqL K H p (ps.map rf) ∧ Ords H ps ∧ ps.length ≤ 1000 ∧ ∀ (H' : Hp) (l : Addr), Same H H' → H' l = some (.lst (ps.map fun x => V.str x.2.n)) → Q (.ref l) H'
theorem ok_names_of (d_names_of : Dv K mg "names_of" (top 25) ["orders"]) (B : Bl mg) (C : Co mg) (R : Er K mg)  : FnOk P w K mg base CX0 1 d_names_of.f d_names_of.fd ["orders"] (sp_names_of K) := by
  refine d_names_of.F.ok sc_names_of (fun vs H Q E h => ?_) (fun cdv A outer s H vs Q E hr h => ?_)
  · obtain ⟨_, _, rfl, _⟩ := h; rfl
  obtain ⟨p, ps, rfl, hS, hO, hl, q⟩ := h
  refine ⟨_, (pss_one (ps_ret (pe_lc (N := ["orders"]) (sc := defScope (top 25)) ⟨by decide +kernel, rfl, rfl, by decide +kernel, by decide +kernel, by decide +kernel, by decide +kernel⟩ rfl rfl rfl (pi_list (pv 0)) (fun _ _ _ _ _ => pif_nil) (fun _ _ _ _ _ => (pe_ix (ix_tupK (K := K) rfl) (pv 0) (pe_glob (v := .int 0) rfl C.m_NAME ⟨_, rfl⟩) (fun _ _ => rfl)))))), ?_⟩
  refine ⟨_, rfl, p, rfl, ⟨_, hS⟩, ?_⟩
  refine comp_map (fun _ => true) (fun x => V.str x.2.n) hS (szOk (by omega)) (fun x H' hx sm R R0 h1 _ => ?_) (fun H' sm l hl' => ?_)
  · have hx' := sm _ _ (hO x hx)
    exact ⟨rfl, iteT (B := R0 H') ⟨_, rfl, x.1, _, _, _, rfl, rfl, .inl (.inl hx'), rfl, h1 rfl _ (Same.refl _)⟩⟩
  · refine q _ l (same_upd' sm hl') ?_
    rw [upd_same, show ps.filter (fun _ => true) = ps by simp]
theorem sc_joining_place : FnScope ["line", "order", "place"] ["line", "order"] (defScope (top 26)) := ⟨rfl, rfl, rfl, by decide +kernel, rfl, by decide +kernel, by decide +kernel⟩
def sp_joining_place (K : PySem.W.Frag) : Sp := fun vs H Q _ => ∃ (p : Addr) (ps : List AO) (t : Addr) (o : Od), vs = [.ref p, .ref t] ∧ SqL K H p (ps.map rf) ∧ Ords H ps ∧ H t = some (.tup (odV o)) ∧ ps.length ≤ 1000 ∧ Q (.int (place o.s o.pr ps)) H
theorem ok_joining_place (d_joining_place : Dv K mg "joining_place" (top 26) ["line", "order"]) (B : Bl mg) (C : Co mg) (R : Er K mg) (d_ahead : Dv K mg "ahead" (top 18) ["side", "price", "other"]) (G_ahead : FnOk P w K mg base CX0 1 d_ahead.f d_ahead.fd ["side", "price", "other"] (sp_ahead K)) : FnOk P w K mg base CX0 2 d_joining_place.f d_joining_place.fd ["line", "order"] (sp_joining_place K) := by
  refine d_joining_place.F.ok sc_joining_place (fun vs H Q E h => ?_) (fun cdv A outer s H vs Q E hr h => ?_)
  · obtain ⟨_, _, _, _, rfl, _⟩ := h; rfl
  obtain ⟨p, ps, t, o, rfl, hS, hO, ht, hl, q⟩ := h
  refine ⟨_, (pss_cons (ps_for PassesOwn.never rfl (pi_range1 rfl B.b_range (pa_cons (pe_callB call_len_seq rfl B.b_len PySem.boot_len (pa_cons (pv 0) pa_nil)) pa_nil)) (pg_name (i := 2) sc_joining_place.nd rfl (Or.inl rfl)) (pss_one (ps_if (pt_val (pe_call G_ahead (hr.mono (by decide)) rfl d_ahead.m d_ahead.F.kp d_ahead.b .nil pass0 (pa_cons (pe_ix ix_tup (pv 1) (pe_glob (v := .int 2) rfl C.m_SIDE ⟨_, rfl⟩) (fun _ _ => rfl)) (pa_cons (pe_ix ix_tup (pv 1) (pe_glob (v := .int 3) rfl C.m_PRICE ⟨_, rfl⟩) (fun _ _ => rfl)) (pa_cons (pe_ix ix_tup (pe_ix ix_list (pv 0) (pv 2) (fun _ _ => rfl)) (pe_glob (v := .int 3) rfl C.m_PRICE ⟨_, rfl⟩) (fun _ _ => rfl)) pa_nil)))) (fun _ => rfl)) (pss_one (ps_ret (pv 2))) pss_nil))) (pss_one (ps_ret (pe_callB call_len_seq rfl B.b_len PySem.boot_len (pa_cons (pv 0) pa_nil))))), ?_⟩
  have hlen : (((ps.map rf).length : Nat) : Int) = ps.length := by rw [List.length_map]
  have hpl := place_le o.s o.pr ps
  refine ⟨_, rfl, p, _, rfl, .inl hS, _, rfl, by omega, by omega, ?_⟩
  refine for_range (lo := 0) (fun i σ H' => H = H' ∧ ∃ v2, σ = [some (.ref p), some (.ref t), v2] ∧ i ≤ place o.s o.pr ps) ⟨rfl, none, rfl, Nat.zero_le _⟩ (fun i σ H' hi z => ?_) (fun σ H' z => ?_)
  · obtain ⟨rfl, v2, rfl, hk⟩ := z
    have c2 : i < ps.length := by omega
    have ax : atI (ps.map rf) (0 + (i : Int)) = some (rf ps[i]) := by rw [Int.zero_add]; exact atI_nat (by rw [List.getElem?_map, List.getElem?_eq_getElem c2]; rfl)
    have hx := hO ps[i] (List.getElem_mem c2)
    obtain ⟨st1, st2⟩ := place_step o.s o.pr ps i ps[i] (List.getElem?_eq_getElem c2) hk
    refine ⟨_, rfl, t, _, _, _, rfl, rfl, .inl (.inl ht), rfl, _, rfl, t, _, _, _, rfl, rfl, .inl (.inl ht), rfl, _, rfl, _, rfl, p, _, _, _, rfl, rfl, hS, ax, ps[i].1, _, _, _, rfl, rfl, .inl (.inl hx), rfl, _, _, _, rfl, _, rfl, ?_⟩
    refine ite2 (fun c3 => ?_) (fun c3 => ?_)
    · refine ⟨_, rfl, ?_⟩
      rw [Int.zero_add, st2 c3]
      exact q
    · exact ⟨rfl, _, rfl, st1 (by simpa using c3)⟩
  · obtain ⟨rfl, v2, rfl, hk⟩ := z
    refine ⟨_, rfl, p, _, rfl, .inl hS, ?_⟩
    rw [hlen, show ps.length = place o.s o.pr ps by omega]
    exact q
theorem sc_joined : FnScope ["line", "order", "place"] ["line", "order"] (defScope (top 23)) := ⟨rfl, rfl, rfl, by decide +kernel, rfl, by decide +kernel, by decide +kernel⟩
def sp_joined (K : PySem.W.Frag) (C : Addr) : Sp := fun vs H Q E => ∃ (p : Addr) (ps : List AO) (t : Addr) (o : Od), vs = [.ref p, .ref t] ∧ SqL K H p (ps.map rf) ∧ Ords H ps ∧ H t = some (.tup (odV o)) ∧ ps.length ≤ 1000 ∧ (o.n ∈ ps.map (fun x => x.2.n) → ∀ H', Same H H' → E (.ref C) none H') ∧ (o.n ∉ ps.map (fun x => x.2.n) → ∀ (H' : Hp) (l : Addr), Same H H' → H l = none → H' l = some (.lst ((ins (t, o) ps).map rf)) → Q (.ref l) H')
theorem ok_joined (d_joined : Dv K mg "joined" (top 23) ["line", "order"]) (B : Bl mg) (C : Co mg) (R : Er K mg) (d_names_of : Dv K mg "names_of" (top 25) ["orders"]) (G_names_of : FnOk P w K mg base CX0 1 d_names_of.f d_names_of.fd ["orders"] (sp_names_of K)) (d_joining_place : Dv K mg "joining_place" (top 26) ["line", "order"]) (G_joining_place : FnOk P w K mg base CX0 2 d_joining_place.f d_joining_place.fd ["line", "order"] (sp_joining_place K)) : FnOk P w K mg base (CXb P w) 3 d_joined.f d_joined.fd ["line", "order"] (sp_joined K R.c_Twice) := by
  refine d_joined.F.okx sc_joined (fun vs H Q E h => ?_) (fun cdv A outer s H vs Q E hr h => ?_)
  · obtain ⟨_, _, _, _, rfl, _⟩ := h; rfl
  obtain ⟨p, ps, t, o, rfl, hS, hO, ht, hl, qe, q⟩ := h
  refine ⟨_, (pss_cons (ps_if (pt_cmpR op_in_seq (pe_ix ix_tup (pv 1) (pe_glob (v := .int 0) rfl C.m_NAME ⟨_, rfl⟩) (fun _ _ => rfl)) (pe_call G_names_of (hr.mono (by decide)) rfl d_names_of.m d_names_of.F.kp d_names_of.b .nil pass0 (pa_cons (pv 0) pa_nil)) rfl) (pss_one (ps_raise raises_fn rfl rfl R.m_Twice R.x_Twice (pa_cons pe_str pa_nil))) pss_nil) (pss_cons (ps_set (i := 2) sc_joined.nd rfl (Or.inl rfl) (pe_call G_joining_place (hr.mono (by decide)) rfl d_joining_place.m d_joining_place.F.kp d_joining_place.b .nil pass0 (pa_cons (pv 0) (pa_cons (pv 1) pa_nil)))) (pss_one (ps_ret (pe_op op_cat (pe_op op_cat (pe_slice sl_list (pv 0) po_none (po_some (pv 2))) (pe_lst (pa_cons (pv 1) pa_nil))) (pe_slice sl_list (pv 0) (po_some (pv 2)) po_none)))))), ?_⟩
  refine ⟨_, rfl, t, _, _, _, rfl, rfl, .inl (.inl ht), rfl, _, rfl, p, ps, rfl, hS, hO, hl, fun H1 l1 s1 hl1 => ⟨l1, _, rfl, .inl (.inl (.inl hl1)), rfl, names_flat ps, _, rfl, ?_⟩⟩
  rw [if_neg Bool.false_ne_true, names_in]
  refine ite2 (fun c => ?_) (fun c => ?_)
  · exact ⟨by walk_at "sz", qe (of_decide_eq_true c) _ s1⟩
  have q := q (fun z => c (decide_eq_true z))
  have hS1 := s1.seq hS
  have hpl := place_le o.s o.pr ps
  refine ⟨_, rfl, _, rfl, p, ps, t, o, rfl, hS1, hO.same s1, s1 _ _ ht, hl, ?_⟩
  refine ⟨_, rfl, _, rfl, _, rfl, p, _, rfl, hS1, fun q1 hq1 => ⟨_, rfl, by walk_at "sz", fun q2 hq2 => ?_⟩⟩
  rw [cut_take ps hpl] at hq2 ⊢
  refine ⟨q1, q2, _, _, rfl, rfl, at_upd upd_same hq2, upd_same, by rw [List.length_map, List.length_take]; exact szOk (by show min _ _ + 1 ≤ _; omega), fun q3 hq3 => ?_⟩
  have s3 := same_upd' (u := .lst ((ps.take (place o.s o.pr ps)).map rf ++ [V.ref t])) (same_upd' (u := .lst [V.ref t]) (same_upd (u := .lst ((ps.take (place o.s o.pr ps)).map rf)) hq1) hq2) hq3
  refine ⟨_, rfl, _, rfl, _, rfl, p, _, rfl, s3.seq hS1, fun q4 hq4 => ?_⟩
  rw [cut_drop ps hpl]
  refine ⟨q3, q4, _, _, rfl, rfl, at_upd upd_same hq4, upd_same, ?_, fun q5 hq5 => q _ q5 (s1.trans (same_upd' (same_upd' s3 hq4) hq5)) ((s1.trans (same_upd' s3 hq4)).free hq5) ?_⟩
  · rw [List.length_append, List.length_map, List.length_map, List.length_take, List.length_drop]
    exact szOk (by show min _ _ + 1 + _ ≤ _; omega)
  · rw [upd_same]
    show _ = some (HO.lst ((ins (t, o) ps).map rf))
    unfold ins
    rw [List.map_append, List.map_cons, List.append_assoc]
    rfl
theorem sc_served : FnScope ["line", "amount", "first", "others", "behind"] ["line", "amount"] (defScope (top 24)) := ⟨rfl, rfl, rfl, by decide +kernel, rfl, by decide +kernel, by decide +kernel⟩
def sp_served (K : PySem.W.Frag) (CN CB : Addr) : Sp := fun vs H Q E => ∃ (p : Addr) (ps : List AO) (am : Int), vs = [.ref p, .int am] ∧ SqL K H p (ps.map rf) ∧ Ords H ps ∧ ps.length ≤ 1000 ∧ (ps.map fun x => x.2.n).Nodup ∧ (ps = [] → E (.ref CN) none H) ∧
  (∀ x r, ps = x :: r → ¬ (1 ≤ am ∧ am ≤ x.2.sh) → ∀ H', Same H H' → E (.ref CB) none H') ∧ (∀ x r, ps = x :: r → 1 ≤ am → am ≤ x.2.sh → ∀ (H' : Hp) (l : Addr) (qs : List AO), Same H H' → H l = none → H' l = some (.lst (qs.map rf)) → Ords H' qs → qs.map (·.2) = servedO (ps.map (·.2)) am → Q (.ref l) H')
theorem ok_served (d_served : Dv K mg "served" (top 24) ["line", "amount"]) (B : Bl mg) (C : Co mg) (R : Er K mg) (d_filled : Dv K mg "filled" (top 16) ["order", "amount"]) (G_filled : FnOk P w K mg base (CXb P w) 3 d_filled.f d_filled.fd ["order", "amount"] (sp_filled R.c_BadNumber)) (d_renews : Dv K mg "renews" (top 17) ["order", "amount"]) (G_renews : FnOk P w K mg base CX0 1 d_renews.f d_renews.fd ["order", "amount"] (sp_renews K)) (d_joined : Dv K mg "joined" (top 23) ["line", "order"]) (G_joined : FnOk P w K mg base (CXb P w) 3 d_joined.f d_joined.fd ["line", "order"] (sp_joined K R.c_Twice)) : FnOk P w K mg base (CXb P w) 4 d_served.f d_served.fd ["line", "amount"] (sp_served K R.c_NoOrder R.c_BadNumber) := by
  refine d_served.F.okx sc_served (fun vs H Q E h => ?_) (fun cdv A outer s H vs Q E hr h => ?_)
  · obtain ⟨_, _, _, rfl, _⟩ := h; rfl
  obtain ⟨p, ps, am, rfl, hS, hO, hl, hnd, qn, qb, q⟩ := h
  refine ⟨_, (pss_cons (ps_if (pt_cmpR op_eq (pe_callB call_len_seq rfl B.b_len PySem.boot_len (pa_cons (pv 0) pa_nil)) pe_int (nomark _)) (pss_one (ps_raise raises_fn rfl rfl R.m_NoOrder R.x_NoOrder (pa_cons pe_str pa_nil))) pss_nil) (pss_cons (ps_set (i := 2) sc_served.nd rfl (Or.inl rfl) (pe_ix ix_list (pv 0) pe_int (fun _ _ => rfl))) (pss_cons (ps_set (i := 3) sc_served.nd rfl (Or.inl rfl) (pe_slice sl_list (pv 0) (po_some pe_int) po_none)) (pss_cons (ps_set (i := 4) sc_served.nd rfl (Or.inl rfl) (pe_call G_filled (hr.mono (by decide)) rfl d_filled.m d_filled.F.kp d_filled.b .nil passes_fn (pa_cons (pv 2) (pa_cons (pv 1) pa_nil)))) (pss_cons (ps_if (pt_cmpR op_isN (pv 4) pe_non (nomark _)) (pss_one (ps_ret (pv 3))) pss_nil) (pss_cons (ps_if (pt_val (pe_call G_renews (hr.mono (by decide)) rfl d_renews.m d_renews.F.kp d_renews.b .nil pass0 (pa_cons (pv 2) (pa_cons (pv 1) pa_nil))) (fun _ => rfl)) (pss_one (ps_ret (pe_call G_joined (hr.mono (by decide)) rfl d_joined.m d_joined.F.kp d_joined.b .nil passes_fn (pa_cons (pv 3) (pa_cons (pv 4) pa_nil))))) pss_nil) (pss_one (ps_ret (pe_op op_cat (pe_lst (pa_cons (pv 4) pa_nil)) (pv 3)))))))))), ?_⟩
  refine ⟨_, rfl, p, _, rfl, .inl hS, rfl, _, rfl, ?_⟩
  cases ps with
  | nil => exact iteT ⟨by walk_at "sz", qn rfl⟩
  | cons x r =>
    refine ite2 (fun c => absurd c (by simp; omega)) fun _ => ?_
    have qb := qb x r rfl
    have q := q x r rfl
    have hx := hO x List.mem_cons_self
    have hr : Ords H r := fun y hy => hO y (List.mem_cons_of_mem _ hy)
    refine ⟨_, rfl, p, _, _, _, rfl, rfl, hS, at_zero x r, ?_⟩
    refine ⟨_, rfl, _, rfl, p, _, rfl, hS, fun ot hot => ?_⟩
    rw [cut_tail]
    have s1 := same_upd (u := .lst (r.map rf)) hot
    refine ⟨_, rfl, _, rfl, x.1, x.2.n, x.2.w, x.2.s, x.2.pr, x.2.l, x.2.sh, x.2.pk, am, rfl, s1 _ _ hx, fun z => qb z _ s1, fun a1 a2 e => ?_, fun a1 a2 e H2 t s2 ht => ?_⟩
    · refine ⟨_, rfl, rfl, _, rfl, iteT ⟨_, rfl, ?_⟩⟩
      refine q a1 a2 _ ot r s1 hot upd_same (hr.same s1) ?_
      rw [List.map_cons, servedO_cons, if_pos e]
    · have sA := s1.trans s2
      have hty : H2 t = some (.tup (odV (behO x.2 am))) := ht
      refine ⟨_, rfl, rfl, _, rfl, iteF ?_⟩
      refine ⟨_, rfl, _, rfl, x.1, x.2.n, x.2.w, x.2.s, x.2.pr, x.2.l, x.2.sh, x.2.pk, am, rfl, sA _ _ hx, _, rfl, ?_⟩
      refine ite2 (fun c2 => ?_) (fun c2 => ?_)
      · have c3 : x.2.sh = am ∧ am < x.2.l := by simpa using c2
        refine ⟨_, rfl, _, rfl, ot, r, t, behO x.2 am, rfl, .inl (.inl (s2 _ _ upd_same)), hr.same sA, hty, by rw [List.length_cons] at hl; omega, fun z => ?_, fun _ H3 l3 s3 fl3 hl3 => ?_⟩
        · rw [List.map_cons, List.nodup_cons] at hnd
          exact absurd z hnd.1
        · refine q a1 a2 _ l3 _ (sA.trans s3) (sA.free fl3) hl3 ?_ ?_
          · intro y hy
            rcases mem_ins hy with rfl | hy
            · exact s3 _ _ hty
            · exact s3 _ _ (sA _ _ (hr y hy))
          · rw [ins_map, List.map_cons, servedO_cons, if_neg e, if_pos c3]
      · have c3 : ¬ (x.2.sh = am ∧ am < x.2.l) := by simpa using c2
        refine ⟨_, rfl, by walk_at "sz", fun q1 hq1 => ⟨_, rfl, q1, ot, _, _, rfl, rfl, upd_same, at_upd (s2 _ _ upd_same) hq1, ?_, fun q2 hq2 => ?_⟩⟩
        · rw [List.length_map]; rw [List.length_cons] at hl; exact szOk (by show 1 + _ ≤ _; omega)
        · have sB := same_upd' (u := .lst ([V.ref t] ++ r.map rf)) (same_upd (u := .lst [V.ref t]) hq1) hq2
          refine q a1 a2 _ q2 ((t, behO x.2 am) :: r) (sA.trans sB) ((sA.trans (same_upd (u := .lst [V.ref t]) hq1)).free hq2) upd_same ?_ ?_
          · intro y hy
            rcases List.mem_cons.mp hy with rfl | hy
            · exact sB _ _ hty
            · exact sB _ _ (sA _ _ (hr y hy))
          · rw [List.map_cons, List.map_cons, servedO_cons, if_neg e, if_neg c3]
theorem sc_looked_at : FnScope ["order", "first", "last", "leap"] ["order", "first", "last", "leap"] (defScope (top 29)) := ⟨rfl, rfl, rfl, by decide +kernel, rfl, by decide +kernel, by decide +kernel⟩
def sp_looked_at (K : PySem.W.Frag) : Sp := fun vs H Q _ => ∃ (t : Addr) (o : Od) (f : Addr) (x : Od) (last leap : Int), vs = [.ref t, .ref f, .int last, .int leap] ∧ H t = some (.tup (odV o)) ∧ H f = some (.tup (odV x)) ∧ Q (.str (lookS o x last leap)) H
theorem ok_looked_at (d_looked_at : Dv K mg "looked_at" (top 29) ["order", "first", "last", "leap"]) (B : Bl mg) (C : Co mg) (R : Er K mg) (d_allows : Dv K mg "allows" (top 19) ["side", "limit", "price"]) (G_allows : FnOk P w K mg base CX0 2 d_allows.f d_allows.fd ["side", "limit", "price"] (sp_allows K)) : FnOk P w K mg base CX0 3 d_looked_at.f d_looked_at.fd ["order", "first", "last", "leap"] (sp_looked_at K) := by
  refine d_looked_at.F.ok sc_looked_at (fun vs H Q E h => ?_) (fun cdv A outer s H vs Q E hr h => ?_)
  · obtain ⟨_, _, _, _, _, _, rfl, _⟩ := h; rfl
  obtain ⟨t, o, f, x, last, leap, rfl, ht, hf, q⟩ := h
  refine ⟨_, (pss_cons (ps_if (pt_not (pt_val (pe_call G_allows (hr.mono (by decide)) rfl d_allows.m d_allows.F.kp d_allows.b .nil pass0 (pa_cons (pe_ix ix_tup (pv 0) (pe_glob (v := .int 2) rfl C.m_SIDE ⟨_, rfl⟩) (fun _ _ => rfl)) (pa_cons (pe_ix ix_tup (pv 0) (pe_glob (v := .int 3) rfl C.m_PRICE ⟨_, rfl⟩) (fun _ _ => rfl)) (pa_cons (pe_ix ix_tup (pv 1) (pe_glob (v := .int 3) rfl C.m_PRICE ⟨_, rfl⟩) (fun _ _ => rfl)) pa_nil)))) (fun _ => rfl))) (pss_one (ps_ret pe_str)) pss_nil) (pss_cons (ps_if (pt_cmpR op_eq (pe_ix ix_tup (pv 1) (pe_glob (v := .int 1) rfl C.m_WHO ⟨_, rfl⟩) (fun _ _ => rfl)) (pe_ix ix_tup (pv 0) (pe_glob (v := .int 1) rfl C.m_WHO ⟨_, rfl⟩) (fun _ _ => rfl)) (nomark _)) (pss_one (ps_ret pe_str)) pss_nil) (pss_cons (ps_if (pt_cmpR op_gt (pe_callB call_abs rfl B.b_abs PyProof.Rows.boot_abs (pa_cons (pe_op op_sub (pe_ix ix_tup (pv 1) (pe_glob (v := .int 3) rfl C.m_PRICE ⟨_, rfl⟩) (fun _ _ => rfl)) (pv 2)) pa_nil)) (pv 3) (nomark _)) (pss_one (ps_ret pe_str)) pss_nil) (pss_one (ps_ret pe_str))))), ?_⟩
  unfold lookS at q
  refine ⟨_, rfl, t, _, _, _, rfl, rfl, .inl (.inl ht), rfl, _, rfl, t, _, _, _, rfl, rfl, .inl (.inl ht), rfl, _, rfl, f, _, _, _, rfl, rfl, .inl (.inl hf), rfl, _, _, _, rfl, _, rfl, ?_⟩
  refine ite2 (fun c => ?_) (fun c => ?_)
  · rw [if_pos (by simpa using c)] at q
    exact q
  rw [if_neg (by simpa using c)] at q
  refine ⟨_, rfl, f, _, _, _, rfl, rfl, .inl (.inl hf), rfl, _, rfl, t, _, _, _, rfl, rfl, .inl (.inl ht), rfl, rfl, _, rfl, ?_⟩
  refine ite2 (fun c => ?_) (fun c => ?_)
  · rw [if_pos (by simpa using c)] at q
    exact q
  rw [if_neg (by simpa using c)] at q
  refine ⟨_, rfl, f, _, _, _, rfl, rfl, .inl (.inl hf), rfl, _, rfl, _, _, rfl, rfl, _, rfl, _, rfl, _, _, rfl, rfl, _, rfl, ?_⟩
  refine ite2 (fun c => ?_) (fun c => ?_)
  · rw [if_pos (show leap < absI (x.pr - last) from of_decide_eq_true c)] at q
    exact q
  rw [if_neg (fun z : leap < absI (x.pr - last) => c (decide_eq_true z))] at q
  exact q
theorem sc_met : FnScope ["order", "line", "last", "leap", "steps", "behind", "left", "first", "outcome", "amount"] ["order", "line", "last", "leap"] (defScope (top 28)) := ⟨rfl, rfl, rfl, by decide +kernel, rfl, by decide +kernel, by decide +kernel⟩
def sp_met (K : PySem.W.Frag) : Sp := fun vs H Q _ => ∃ (t : Addr) (o : Od) (p : Addr) (ps : List AO) (last leap : Int), vs = [.ref t, .ref p, .int last, .int leap] ∧ H t = some (.tup (odV o)) ∧ SqL K H p (ps.map rf) ∧ Ords H ps ∧ ps.length ≤ 900 ∧ muS (ps.map (·.2)) ≤ 1000000 ∧ (ps.map fun x => x.2.n).Nodup ∧ (∀ x ∈ ps.map (·.2), OkO x) ∧
  ∀ (H' : Hp) (T S B : Addr) (ss : List (Addr × List V)) (qs : List AO) (lf : Int) (hb : Bool), Same H H' → H' T = some (.tup [.ref S, .ref B, .int lf, .bl hb]) → H' S = some (.lst (ss.map sr)) → Rws H' ss → H' B = some (.lst (qs.map rf)) → Ords H' qs → H B = none → B ≠ S → Met o last leap o.l (ps.map (·.2)) (ss.map (·.2)) (qs.map (·.2)) lf hb → Q (.ref T) H'
theorem ok_met (d_met : Dv K mg "met" (top 28) ["order", "line", "last", "leap"]) (B : Bl mg) (C : Co mg) (R : Er K mg) (d_looked_at : Dv K mg "looked_at" (top 29) ["order", "first", "last", "leap"]) (G_looked_at : FnOk P w K mg base CX0 3 d_looked_at.f d_looked_at.fd ["order", "first", "last", "leap"] (sp_looked_at K)) (d_served : Dv K mg "served" (top 24) ["line", "amount"]) (G_served : FnOk P w K mg base (CXb P w) 4 d_served.f d_served.fd ["line", "amount"] (sp_served K R.c_NoOrder R.c_BadNumber)) : FnOk P w K mg base CX0 5 d_met.f d_met.fd ["order", "line", "last", "leap"] (sp_met K) := by
  refine d_met.F.ok sc_met (fun vs H Q E h => ?_) (fun cdv A outer s H vs Q E hr h => ?_)
  · obtain ⟨_, _, _, _, _, _, rfl, _⟩ := h; rfl
  obtain ⟨t, o, p, ps, last, leap, rfl, ht, hS, hO, hl, hmu, hnd, hok, q⟩ := h
  refine ⟨_, (pss_cons (ps_set (i := 4) sc_met.nd rfl (Or.inl rfl) (pe_lst pa_nil)) (pss_cons (ps_set (i := 5) sc_met.nd rfl (Or.inl rfl) (pe_callTy call_list_of rfl B.b_list PyProof.Rows.boot_list (pa_cons (pv 1) pa_nil))) (pss_cons (ps_set (i := 6) sc_met.nd rfl (Or.inl rfl) (pe_ix ix_tup (pv 0) (pe_glob (v := .int 4) rfl C.m_LEFT ⟨_, rfl⟩) (fun _ _ => rfl))) (pss_cons (ps_while PassesOwn.never (PW.pt (pw_and (pt_cmpR op_gt (pv 6) pe_int (nomark _)) (pw_and1 (pt_cmpR op_gt (pe_callB call_len_seq rfl B.b_len PySem.boot_len (pa_cons (pv 5) pa_nil)) pe_int (nomark _))))) (pss_cons (ps_set (i := 7) sc_met.nd rfl (Or.inl rfl) (pe_ix ix_list (pv 5) pe_int (fun _ _ => rfl))) (pss_cons (ps_set (i := 8) sc_met.nd rfl (Or.inl rfl) (pe_call G_looked_at (hr.mono (by decide)) rfl d_looked_at.m d_looked_at.F.kp d_looked_at.b .nil pass0 (pa_cons (pv 0) (pa_cons (pv 7) (pa_cons (pv 2) (pa_cons (pv 3) pa_nil)))))) (pss_cons (ps_if (pt_cmpR op_in_seq (pv 8) (pe_tup (pa_cons pe_str (pa_cons pe_str pa_nil))) rfl) (pss_one (ps_ret (pe_tup (pa_cons (pv 4) (pa_cons (pv 5) (pa_cons (pv 6) (pa_cons (pe_cmpR op_eq (pv 8) pe_str (nomark _)) pa_nil))))))) pss_nil) (pss_one (ps_if (pt_cmpR op_eq (pv 8) pe_str (nomark _)) (pss_cons (ps_expr (pe_bm PySem.F.plainAttrs_list PySem.F.slot_list_append PySem.F.type_list_append mt_append (pv 4) (pa_cons (pe_tup (pa_cons pe_str (pa_cons (pe_ix ix_tup (pv 7) (pe_glob (v := .int 0) rfl C.m_NAME ⟨_, rfl⟩) (fun _ _ => rfl)) (pa_cons (pe_ix ix_tup (pv 7) (pe_glob (v := .int 4) rfl C.m_LEFT ⟨_, rfl⟩) (fun _ _ => rfl)) pa_nil)))) pa_nil))) (pss_one (ps_set (i := 5) sc_met.nd rfl (Or.inl rfl) (pe_slice sl_list (pv 5) (po_some pe_int) po_none)))) (pss_cons (ps_set (i := 9) sc_met.nd rfl (Or.inl rfl) (pe_callB (call_min2 rfl) rfl B.b_min PyProof.Rows.boot_min (pa_cons (pv 6) (pa_cons (pe_ix ix_tup (pv 7) (pe_glob (v := .int 5) rfl C.m_SHOWN ⟨_, rfl⟩) (fun _ _ => rfl)) pa_nil)))) (pss_cons (ps_expr (pe_bm PySem.F.plainAttrs_list PySem.F.slot_list_append PySem.F.type_list_append mt_append (pv 4) (pa_cons (pe_tup (pa_cons pe_str (pa_cons (pe_ix ix_tup (pv 7) (pe_glob (v := .int 0) rfl C.m_NAME ⟨_, rfl⟩) (fun _ _ => rfl)) (pa_cons (pe_ix ix_tup (pv 7) (pe_glob (v := .int 3) rfl C.m_PRICE ⟨_, rfl⟩) (fun _ _ => rfl)) (pa_cons (pv 9) pa_nil))))) pa_nil))) (pss_cons (ps_set (i := 5) sc_met.nd rfl (Or.inl rfl) (pe_call G_served (hr.mono (by decide)) rfl d_served.m d_served.F.kp d_served.b .nil passb0 (pa_cons (pv 5) (pa_cons (pv 9) pa_nil)))) (pss_one (ps_set (i := 6) sc_met.nd rfl (Or.inl rfl) (pe_op op_sub (pv 6) (pv 9))))))))))))) (pss_one (ps_ret (pe_tup (pa_cons (pv 4) (pa_cons (pv 5) (pa_cons (pv 6) (pa_cons pe_bl pa_nil))))))))))), ?_⟩
  refine ⟨by walk_at "sz", fun S hSn => ?_⟩
  have s0 := same_upd (u := .lst []) hSn
  refine ⟨_, rfl, p, _, rfl, .inl (s0.seq hS), fun B0 hB0 => ?_⟩
  have s1 := same_upd' (u := .lst (ps.map rf)) s0 hB0
  have fB0 : H B0 = none := s0.free hB0
  refine ⟨_, rfl, t, _, _, _, rfl, rfl, .inl (.inl (s1 _ _ ht)), rfl, ?_⟩
  have nSB0 : B0 ≠ S := (ne_of_none (H := upd H S (.lst [])) upd_same hB0).symm
  refine ⟨fun m σ' H' => ∃ (B : Addr) (qs : List AO) (ss : List (Addr × List V)) (lf : Int) (v7 v8 v9 : Option V), σ' = [some (.ref t), some (.ref p), some (.int last), some (.int leap), some (.ref S), some (.ref B), some (.int lf), v7, v8, v9] ∧ m = lf.toNat + qs.length ∧ Same H H' ∧ H' S = some (.lst (ss.map sr)) ∧ Rws H' ss ∧ H' B = some (.lst (qs.map rf)) ∧ Ords H' qs ∧ H B = none ∧ B ≠ S ∧ (0 < lf → ss.length + muS (qs.map (·.2)) ≤ 1000000) ∧ qs.length ≤ 900 ∧ (qs.map fun x => x.2.n).Nodup ∧ (∀ x ∈ qs.map (·.2), OkO x) ∧
    (∀ ss2 os' lf' h, Met o last leap lf (qs.map (·.2)) ss2 os' lf' h → Met o last leap o.l (ps.map (·.2)) (ss.map (·.2) ++ ss2) os' lf' h), ⟨_, B0, ps, [], _, _, _, _, rfl, rfl, s1, at_upd upd_same hB0, fun _ z => (by cases z), upd_same, hO.same s1, fB0, nSB0, fun _ => by simpa using hmu, hl, hnd, hok, fun _ _ _ _ z => z⟩, ?_⟩
  rintro m _ H' ⟨B, qs, ss, lf, v7, v8, v9, rfl, rfl, sm, hSS, hR, hB, hOq, fB, nBS, hmq, hlq, hnq, hkq, back⟩
  refine ⟨_, rfl, _, _, rfl, rfl, _, rfl, ?_⟩
  refine ite2 (fun c1 => ?_) (fun c1 => ?_)
  rotate_left
  · have c2 : ¬ 0 < lf := fun z => c1 (decide_eq_true z)
    refine iteF ⟨_, rfl, _, rfl, _, rfl, by walk_at "sz", fun T hT => ?_⟩
    have sT := same_upd (u := .tup [V.ref S, V.ref B, V.int lf, V.bl false]) hT
    refine q _ T S B ss qs lf false (sm.trans sT) upd_same (sT _ _ hSS) (hR.same sT) (sT _ _ hB) (hOq.same sT) fB nBS ?_
    have := back [] _ _ _ (.stop fun z => c2 z.1)
    rwa [List.append_nil] at this
  have c2 : 0 < lf := of_decide_eq_true c1
  refine ⟨_, rfl, B, _, rfl, .inl (.inl (.inl hB)), _, _, rfl, rfl, _, rfl, ?_⟩
  cases qs with
  | nil =>
    refine ite2 (fun z => absurd z (by decide)) fun _ => ?_
    refine ⟨_, rfl, _, rfl, _, rfl, by walk_at "sz", fun T hT => ?_⟩
    have sT := same_upd (u := .tup [V.ref S, V.ref B, V.int lf, V.bl false]) hT
    refine q _ T S B ss [] lf false (sm.trans sT) upd_same (sT _ _ hSS) (hR.same sT) (sT _ _ hB) (hOq.same sT) fB nBS ?_
    have := back [] _ _ _ (.stop fun z => z.2 rfl)
    rwa [List.append_nil] at this
  | cons x r =>
    refine ite2 (fun _ => ?_) (fun z => absurd (by first | (simp; done) | (simp; omega)) z)
    have hx := hOq x List.mem_cons_self
    have hr : Ords H' r := fun y hy => hOq y (List.mem_cons_of_mem _ hy)
    have hxk : OkO x.2 := hkq x.2 (by rw [List.map_cons]; exact List.mem_cons_self)
    have hmq := hmq c2
    have mp := mu_pos x.2
    rw [List.map_cons, muS_cons] at hmq
    let N1 : St → Hp → Prop := fun σ' H2 => ∃ (B : Addr) (qs : List AO) (ss : List (Addr × List V)) (lf2 : Int) (v7 v8 v9 : Option V), σ' = [some (.ref t), some (.ref p), some (.int last), some (.int leap), some (.ref S), some (.ref B), some (.int lf2), v7, v8, v9] ∧ lf2.toNat + qs.length < lf.toNat + (x :: r).length ∧ Same H H2 ∧ H2 S = some (.lst (ss.map sr)) ∧ Rws H2 ss ∧ H2 B = some (.lst (qs.map rf)) ∧ Ords H2 qs ∧ H B = none ∧ B ≠ S ∧ (0 < lf2 → ss.length + muS (qs.map (·.2)) ≤ 1000000) ∧ qs.length ≤ 900 ∧ (qs.map fun x => x.2.n).Nodup ∧ (∀ x ∈ qs.map (·.2), OkO x) ∧
      (∀ ss2 os' lf' h, Met o last leap lf2 (qs.map (·.2)) ss2 os' lf' h → Met o last leap o.l (ps.map (·.2)) (ss.map (·.2) ++ ss2) os' lf' h)
    refine ⟨N1, ?_, ?_⟩
    · rintro σ2 H2 ⟨B, qs, ss, lf2, v7, v8, v9, e, hlt, rest⟩
      exact ⟨_, hlt, B, qs, ss, lf2, v7, v8, v9, e, rfl, rest⟩
    refine ⟨_, rfl, B, _, _, _, rfl, rfl, .inl (.inl hB), at_zero x r, ?_⟩
    refine ⟨_, rfl, _, rfl, _, rfl, _, rfl, t, o, x.1, x.2, last, leap, rfl, sm _ _ ht, hx, ?_⟩
    refine ⟨_, rfl, by walk_at "sz", fun t1 ht1 => ⟨t1, _, rfl, .inr (.inl (.inl upd_same)), rfl, rfl, _, rfl, ?_⟩⟩
    have sE := same_upd (u := .tup [V.str "end", V.str "halt"]) ht1
    rcases lookS_four o x.2 last leap with e | e | e | e
    · rw [e, in_end]
      refine iteT ⟨_, rfl, _, rfl, _, rfl, _, rfl, rfl, by walk_at "sz", fun T hT => ?_⟩
      rw [end_ne_halt] at *
      have sT := sE.trans (same_upd (u := .tup [V.ref S, V.ref B, V.int lf, V.bl false]) hT)
      refine q _ T S B ss (x :: r) lf false (sm.trans sT) upd_same (sT _ _ hSS) (hR.same sT) (sT _ _ hB) (hOq.same sT) fB nBS ?_
      have := back [] _ _ _ (.fin c2 e)
      rwa [List.append_nil] at this
    · rw [e, in_halt]
      refine iteT ⟨_, rfl, _, rfl, _, rfl, _, rfl, rfl, by walk_at "sz", fun T hT => ?_⟩
      rw [halt_is] at *
      have sT := sE.trans (same_upd (u := .tup [V.ref S, V.ref B, V.int lf, V.bl true]) hT)
      refine q _ T S B ss (x :: r) lf true (sm.trans sT) upd_same (sT _ _ hSS) (hR.same sT) (sT _ _ hB) (hOq.same sT) fB nBS ?_
      have := back [] _ _ _ (.halt c2 e)
      rwa [List.append_nil] at this
    · rw [e, in_shun]
      refine iteF ⟨_, rfl, rfl, _, rfl, ?_⟩
      rw [shun_is]
      refine iteT ⟨_, rfl, .inl ⟨rfl, _, .inl (.inl (sE _ _ hSS))⟩, _, rfl, x.1, _, _, _, rfl, rfl, .inl (.inl (sE _ _ hx)), rfl, _, rfl, x.1, _, _, _, rfl, rfl, .inl (.inl (sE _ _ hx)), rfl, by walk_at "sz", fun st hst => ?_⟩
      have sF := same_upd' (u := .tup [V.str "shun", V.str x.2.n, V.int x.2.l]) sE hst
      refine ⟨S, _, _, rfl, rfl, sF _ _ hSS, by rw [List.length_map]; exact szLt (by omega), ?_⟩
      have nBS' : B ≠ S := nBS
      have hB2 : upd (upd (upd H' t1 (.tup [V.str "end", V.str "halt"])) st (.tup [V.str "shun", V.str x.2.n, V.int x.2.l])) S (.lst (ss.map sr ++ [V.ref st])) B = some (.lst ((x :: r).map rf)) := upd_oth (sF _ _ hB) nBS
      refine ⟨_, rfl, _, rfl, B, _, rfl, .inl (.inl hB2), fun B2 hB2n => ?_⟩
      rw [cut_tail]
      have sG : Same H (upd (upd (upd (upd H' t1 (.tup [V.str "end", V.str "halt"])) st (.tup [V.str "shun", V.str x.2.n, V.int x.2.l])) S (.lst (ss.map sr ++ [V.ref st]))) B2 (.lst (r.map rf))) := same_upd' (same_updN (sm.trans sF) hSn) hB2n
      have fB2 : H B2 = none := (same_updN (u := .lst (ss.map sr ++ [V.ref st])) (sm.trans sF) hSn).free hB2n
      have nB2S : B2 ≠ S := fun z => by rw [z, upd_same] at hB2n; cases hB2n
      refine ⟨B2, r, ss ++ [(st, [V.str "shun", V.str x.2.n, V.int x.2.l])], lf, _, _, _, rfl, by rw [List.length_cons]; omega, sG, ?_, ?_, upd_same, ?_, fB2, nB2S, fun _ => ?_, by rw [List.length_cons] at hlq; omega, ?_, ?_, ?_⟩
      · rw [upd_oth upd_same nB2S.symm, List.map_append]; rfl
      · intro y hy
        refine at_upd (upd_tup ?_ (sF _ _ hSS)) hB2n
        rcases List.mem_append.mp hy with hy | hy
        · exact sF _ _ (hR y hy)
        · rw [List.mem_singleton.mp hy]; exact upd_same
      · intro y hy
        exact at_upd (upd_tup (sF _ _ (hr y hy)) (sF _ _ hSS)) hB2n
      · rw [List.length_append, List.length_singleton]; omega
      · rw [List.map_cons, List.nodup_cons] at hnq; exact hnq.2
      · intro y hy; exact hkq y (by rw [List.map_cons]; exact List.mem_cons_of_mem _ hy)
      · intro ss2 os' lf' h hm
        rw [List.map_append, List.append_assoc]
        exact back _ _ _ _ (.shun c2 e hm)
    · rw [e, in_trade]
      refine iteF ⟨_, rfl, rfl, _, rfl, ?_⟩
      rw [trade_ne]
      refine iteF ⟨_, rfl, _, rfl, x.1, _, _, _, rfl, rfl, .inl (.inl (sE _ _ hx)), rfl, _, _, rfl, ?_⟩
      have ha1 : 1 ≤ (if x.2.sh < lf then x.2.sh else lf) := by have := hxk.1; split <;> omega
      have ha2 : (if x.2.sh < lf then x.2.sh else lf) ≤ x.2.sh := by split <;> omega
      have ha3 : 0 < lf - (if x.2.sh < lf then x.2.sh else lf) → (if x.2.sh < lf then x.2.sh else lf) = x.2.sh := by split <;> omega
      have ha4 : (if x.2.sh < lf then x.2.sh else lf) ≤ lf := by split <;> omega
      refine ⟨_, rfl, .inl ⟨rfl, _, .inl (.inl (sE _ _ hSS))⟩, _, rfl, x.1, _, _, _, rfl, rfl, .inl (.inl (sE _ _ hx)), rfl, _, rfl, x.1, _, _, _, rfl, rfl, .inl (.inl (sE _ _ hx)), rfl, _, rfl, by walk_at "sz", fun st hst => ?_⟩
      have sF := same_upd' (u := .tup [V.str "trade", V.str x.2.n, V.int x.2.pr, V.int (if x.2.sh < lf then x.2.sh else lf)]) sE hst
      refine ⟨S, _, _, rfl, rfl, sF _ _ hSS, by rw [List.length_map]; exact szLt (by omega), ?_⟩
      have hB2 : upd (upd (upd H' t1 (.tup [V.str "end", V.str "halt"])) st (.tup [V.str "trade", V.str x.2.n, V.int x.2.pr, V.int (if x.2.sh < lf then x.2.sh else lf)])) S (.lst (ss.map sr ++ [V.ref st])) B = some (.lst ((x :: r).map rf)) := upd_oth (sF _ _ hB) nBS
      have sG : Same H (upd (upd (upd H' t1 (.tup [V.str "end", V.str "halt"])) st (.tup [V.str "trade", V.str x.2.n, V.int x.2.pr, V.int (if x.2.sh < lf then x.2.sh else lf)])) S (.lst (ss.map sr ++ [V.ref st]))) := same_updN (sm.trans sF) hSn
      have hO2 : Ords (upd (upd (upd H' t1 (.tup [V.str "end", V.str "halt"])) st (.tup [V.str "trade", V.str x.2.n, V.int x.2.pr, V.int (if x.2.sh < lf then x.2.sh else lf)])) S (.lst (ss.map sr ++ [V.ref st]))) (x :: r) := fun y hy => upd_tup (sF _ _ (hOq y hy)) (sF _ _ hSS)
      have hS2 : upd (upd (upd H' t1 (.tup [V.str "end", V.str "halt"])) st (.tup [V.str "trade", V.str x.2.n, V.int x.2.pr, V.int (if x.2.sh < lf then x.2.sh else lf)])) S (.lst (ss.map sr ++ [V.ref st])) S = some (.lst (ss.map sr ++ [V.ref st])) := upd_same
      refine ⟨_, rfl, _, rfl, B, x :: r, _, rfl, .inl (.inl hB2), hO2, by omega, hnq, fun z => (by cases z), fun y r' ey hno => ?_, fun y r' ey _ _ H3 B2 qs2 s3 fB2 hB3 hO3 e3 => ?_⟩
      · cases ey
        exact absurd ⟨ha1, ha2⟩ hno
      have sH := sG.trans s3
      refine ⟨_, rfl, _, rfl, _, _, rfl, rfl, ?_⟩
      have nB2S : B2 ≠ S := (ne_of_none hS2 fB2).symm
      have l3 : qs2.length = (servedO (x.2 :: r.map (·.2)) (if x.2.sh < lf then x.2.sh else lf)).length := by
        have := congrArg List.length e3
        rwa [List.length_map, List.map_cons] at this
      have l4 := served_len (x := x.2) (r := r.map (·.2)) (am := if x.2.sh < lf then x.2.sh else lf)
      rw [List.length_map] at l4
      rw [List.length_cons] at hlq
      refine ⟨B2, qs2, ss ++ [(st, [V.str "trade", V.str x.2.n, V.int x.2.pr, V.int (if x.2.sh < lf then x.2.sh else lf)])], lf - (if x.2.sh < lf then x.2.sh else lf), _, _, _, rfl, by rw [List.length_cons]; omega, sH, ?_, ?_, hB3, hO3, sG.free fB2, nB2S, fun c3 => ?_, by omega, ?_, ?_, ?_⟩
      · rw [s3 _ _ hS2, List.map_append]; rfl
      · intro y hy
        refine s3 _ _ (upd_tup ?_ (sF _ _ hSS))
        rcases List.mem_append.mp hy with hy | hy
        · exact sF _ _ (hR y hy)
        · rw [List.mem_singleton.mp hy]; exact upd_same
      · have e4 := muS_served (x := x.2) (r := r.map (·.2)) hxk
        rw [muS_cons] at e4
        rw [e3, List.map_cons, ha3 c3, List.length_append, List.length_singleton]
        omega
      · rw [nodup_map2, e3]
        rw [nodup_map2] at hnq
        exact served_nd hnq
      · rw [e3]
        exact served_ok (by rw [List.map_cons] at hkq; exact hkq) ha1 ha2
      · intro ss2 os' lf' h hm
        rw [List.map_append, List.append_assoc]
        rw [e3] at hm
        exact back _ _ _ _ (.trade c2 e hm)
theorem sc__law_cell_at : FnScope ["script", "k"] ["script", "k"] (defScope (top 31)) := ⟨rfl, rfl, rfl, by decide +kernel, rfl, by decide +kernel, by decide +kernel⟩
def sp__law_cell_at (K : PySem.W.Frag) : Sp := fun vs H Q _ => ∃ (a : Addr) (ns : List Int) (k : Int), vs = [.ref a, .int k] ∧ SqL K H a (ns.map V.int) ∧ 0 ≤ k ∧ Q (.int (cell ns k)) H
theorem ok__law_cell_at (d__law_cell_at : Dv K mg "_law_cell_at" (top 31) ["script", "k"]) (B : Bl mg) (C : Co mg) (R : Er K mg)  : FnOk P w K mg base CX0 1 d__law_cell_at.f d__law_cell_at.fd ["script", "k"] (sp__law_cell_at K) := by
  refine d__law_cell_at.F.ok sc__law_cell_at (fun vs H Q E h => ?_) (fun cdv A outer s H vs Q E hr h => ?_)
  · obtain ⟨_, _, _, rfl, _⟩ := h; rfl
  obtain ⟨a, ns, k, rfl, hS, h0, q⟩ := h
  refine ⟨_, (pss_cons (ps_if (pt_cmpR op_lt (pv 1) (pe_callB call_len_seq rfl B.b_len PySem.boot_len (pa_cons (pv 0) pa_nil)) (nomark _)) (pss_one (ps_ret (pe_ix ix_list (pv 0) (pv 1) (fun _ _ => rfl)))) pss_nil) (pss_one (ps_ret pe_int))), ?_⟩
  have hl : (ns.map V.int).length = ns.length := List.length_map _
  refine ⟨_, rfl, _, rfl, a, _, rfl, .inl hS, _, _, rfl, rfl, _, rfl, ?_⟩
  unfold cell at q
  refine ite2 (fun c => ?_) (fun c => ?_)
  · have c' : k < (ns.length : Int) := by simpa using c
    rw [if_pos c'] at q
    exact ⟨_, rfl, _, rfl, a, _, _, _, rfl, rfl, hS, at_cell h0 c', q⟩
  · have c' : ¬ k < (ns.length : Int) := by simpa using c
    rw [if_neg c'] at q
    exact q
theorem sc__law_name : FnScope ["k", "cell", "letters", "signs", "at", "more", "seed", "word"] ["k", "cell"] (defScope (top 32)) := ⟨rfl, rfl, rfl, by decide +kernel, rfl, by decide +kernel, by decide +kernel⟩
def sp__law_name (K : PySem.W.Frag) : Sp := fun vs H Q _ => ∃ (k c : Int), vs = [.int k, .int c] ∧ 0 ≤ k ∧ k < 1000 ∧ ∀ (z : Str) (H' : Hp), Same H H' → z.length ≤ 25 → Tell c z (k % 26).toNat → Q (.str z) H'
theorem ok__law_name (d__law_name : Dv K mg "_law_name" (top 32) ["k", "cell"]) (B : Bl mg) (C : Co mg) (R : Er K mg)  : FnOk P w K mg base CX0 1 d__law_name.f d__law_name.fd ["k", "cell"] (sp__law_name K) := by
  refine d__law_name.F.ok sc__law_name (fun vs H Q E h => ?_) (fun cdv A outer s H vs Q E hr h => ?_)
  · obtain ⟨_, _, rfl, _⟩ := h; rfl
  obtain ⟨k, c, rfl, h0, h1, q⟩ := h
  refine ⟨_, (pss_cons (ps_set (i := 2) sc__law_name.nd rfl (Or.inl rfl) pe_str) (pss_cons (ps_set (i := 3) sc__law_name.nd rfl (Or.inr rfl) (pe_op op_add_str (pv 2) pe_str)) (pss_cons (ps_set (i := 4) sc__law_name.nd rfl (Or.inl rfl) (pe_op op_mod (pv 1) pe_int)) (pss_cons (ps_set (i := 5) sc__law_name.nd rfl (Or.inl rfl) (pe_op op_mod (pe_op op_fdiv (pv 1) pe_int) (pe_op op_sub pe_int (pv 4)))) (pss_cons (ps_set (i := 6) sc__law_name.nd rfl (Or.inr rfl) (pe_op op_mod (pe_op op_fdiv (pv 1) pe_int) pe_int)) (pss_cut (ps_if (pt_cmpR op_eq (pe_op op_mod (pe_op op_fdiv (pv 1) pe_int) pe_int) pe_int (nomark _)) (pss_one (ps_set (i := 6) sc__law_name.nd rfl (Or.inr rfl) (pe_op op_add (pe_op op_add (pv 6) (pe_op op_mul pe_int (pv 0))) (pe_op op_mul (pv 0) (pv 0))))) pss_nil) (pss_cons (ps_set (i := 7) sc__law_name.nd rfl (Or.inl rfl) (pe_op op_add_str (pe_ix ix_str (pv 2) (pe_op op_mod (pv 6) pe_int) (fun _ _ => rfl)) (pe_bm PySem.F.plainAttrs_str PySem.F.slot_str_join PySem.F.type_str_join mt_join pe_str (pa_cons (pe_lc (N := ["k", "cell", "letters", "signs", "at", "more", "seed", "word"]) (sc := defScope (top 32)) ⟨by decide +kernel, rfl, rfl, by decide +kernel, by decide +kernel, by decide +kernel, by decide +kernel⟩ rfl rfl rfl (pi_range2 rfl B.b_range (pa_cons pe_int (pa_cons pe_int pa_nil))) (fun _ _ _ _ _ => pif_nil) (fun _ _ _ _ _ => (pe_ix ix_str (pv 4) (pe_op op_mod (pe_op op_add (pv 7) (pe_op op_mul pe_int (pv 0))) pe_int) (fun _ _ => rfl)))) pa_nil)))) (pss_cons (ps_set (i := 7) sc__law_name.nd rfl (Or.inl rfl) (pe_slice sl_str (pv 7) po_none (po_some (pe_op op_add (pv 4) (pv 5))))) (pss_one (ps_ret (pe_op op_add_str (pe_op op_add_str (pe_slice sl_str (pv 7) po_none (po_some (pv 4))) (pe_ix ix_str (pv 2) (pe_op op_mod (pv 0) pe_int) (fun _ _ => rfl))) (pe_slice sl_str (pv 7) (po_some (pv 4)) po_none)))))))))))), ?_⟩
  refine ⟨_, rfl, LET, FIG, rfl, rfl, szOk (by decide +kernel), ?_⟩
  refine ⟨_, rfl, _, _, rfl, rfl, (by walk_at "side"), ?_⟩
  refine ⟨_, rfl, _, _, rfl, rfl, ⟨by decide, by decide⟩, _, rfl, _, _, rfl, rfl, _, _, rfl, rfl, (by show (0 : Int) < _; omega), ?_⟩
  refine ⟨_, rfl, _, _, rfl, rfl, ⟨by decide, by decide⟩, _, _, rfl, rfl, (by walk_at "side"), ?_⟩
  refine ⟨fun σ' H' => ∃ sd : Int, σ' = [some (.int k), some (.int c), some (.str LET), some (.str (LET ++ FIG)), some (.int (c % 12)), some (.int (c / 12 % (12 - c % 12))), some (.int sd), none] ∧ H = H', ?_, ?_⟩
  · refine ⟨_, rfl, _, _, rfl, rfl, ⟨by decide, by decide⟩, _, _, rfl, rfl, (by walk_at "side"), rfl, _, rfl, ?_⟩
    refine ite2 (fun _ => ?_) (fun _ => ?_)
    · exact ⟨_, rfl, _, rfl, _, _, rfl, rfl, .inl ⟨by decide, by decide⟩, _, _, rfl, rfl, _, rfl, _, rfl, _, _, rfl, rfl, .inl ⟨by omega, by omega⟩, _, _, rfl, rfl, _, rfl, rfl⟩
    · exact ⟨_, rfl, rfl⟩
  rintro _ _ ⟨sd, rfl, rfl⟩
  refine ⟨_, rfl, _, rfl, _, _, rfl, rfl, (by walk_at "side"), LET, _, _, rfl, rfl, let_ok, at_sgn2 (by omega) (by rw [let_sz]; omega), rfl, 1, 12, rfl, ⟨by decide, by decide, by decide, by decide⟩, ?_⟩
  refine comp_val (n := 11) (val := fun i => .int (1 + (i : Int))) (fun v => match v with | .int j => .str ⟨#[(LET ++ FIG).cps.getD ((sd + 7 * j) % 36).toNat 0]⟩ | v => v) (by walk_at "sz") (fun i H' hi sm R hR => ?_) (fun H' sm l hl => ?_)
  · refine ⟨rfl, _, rfl, _, rfl, _, rfl, _, _, rfl, rfl, .inl ⟨by decide, by decide⟩, _, _, rfl, rfl, _, _, rfl, rfl, (by walk_at "side"), LET ++ FIG, _, _, rfl, rfl, sgs_ok, at_sgn2 (by omega) (by rw [sgs_sz]; omega), hR _ (Same.refl _)⟩
  refine ⟨Str.ofString "", l, (List.range 11).map (sgnAt sd), rfl, rfl, .inl (.inl (by rw [upd_same, List.map_map]; rfl)), by rw [show ((List.range 11).map (sgnAt sd)).map (fun x => x.length) = (List.range 11).map (fun _ => 1) by rw [List.map_map]; rfl, List.length_map]; decide +kernel, ?_⟩
  have hj : (Txt.join (Str.ofString "") ((List.range 11).map (sgnAt sd))).length = 11 := by
    rw [PySem.W.KT.join_ones _ (fun a ha => ?_)]
    · simp
    · obtain ⟨i, _, rfl⟩ := List.mem_map.mp ha
      rfl
  generalize hJ : Txt.join (Str.ofString "") ((List.range 11).map (sgnAt sd)) = J at hj
  have sm1 := same_upd' (u := .lst ((List.range 11).map fun (i : Nat) => (fun v : V => match v with | .int j => V.str ⟨#[(LET ++ FIG).cps.getD ((sd + 7 * j) % 36).toNat 0]⟩ | v => v) (.int (1 + (i : Int))))) sm hl
  refine ⟨_, J, rfl, by rw [← hJ], ?_, ?_⟩
  · rw [one_sz, hj]; exact szOk (by decide)
  generalize hW : Str.mk #[LET.cps.getD (sd % 26).toNat 0] ++ J = W
  have lW : W.length = 12 := by rw [← hW, Str.length_append, one_sz, hj]
  refine ⟨V.str W, by rw [← hW]; rfl, _, rfl, _, rfl, _, _, rfl, rfl, _, rfl, W, rfl, szOk (by omega), ?_⟩
  have lV := Txt.slice_le W none (some (c % 12 + c / 12 % (12 - c % 12)))
  generalize hV : Txt.slice W none (some (c % 12 + c / 12 % (12 - c % 12))) = V0 at lV
  refine ⟨V.str V0, by rw [← hV]; rfl, _, rfl, _, rfl, V0, rfl, szOk (by omega), ?_⟩
  have lA := Txt.slice_le V0 none (some (c % 12))
  refine ⟨_, rfl, _, rfl, _, _, rfl, rfl, (by walk_at "side"), LET, _, _, rfl, rfl, let_ok, at_sgn2 (by omega) (by rw [let_sz]; omega), _, _, rfl, rfl, ?_, ?_⟩
  · rw [one_sz]; exact szOk (by omega)
  have lB := Txt.slice_le V0 (some (c % 12)) none
  refine ⟨V.str V0, by rw [← hV]; rfl, _, rfl, _, rfl, V0, rfl, szOk (by omega), _, _, rfl, rfl, ?_, q _ _ sm1 ?_ ?_⟩
  · rw [Str.length_append, one_sz]; exact szOk (by omega)
  · rw [Str.length_append, Str.length_append, one_sz]; omega
  · rw [← hV]
    exact name_at lW (by omega) (Int.emod_nonneg _ (by omega)) (by have := Int.emod_lt_of_pos (c / 12) (show 0 < 12 - c % 12 by omega); omega)
theorem sc__law_price : FnScope ["cell", "base"] ["cell", "base"] (defScope (top 33)) := ⟨rfl, rfl, rfl, by decide +kernel, rfl, by decide +kernel, by decide +kernel⟩
def sp__law_price (K : PySem.W.Frag) : Sp := fun vs H Q _ => ∃ (c b : Int), vs = [.int c, .int b] ∧ ∀ i : Int, 1 ≤ i → i ≤ 1000000000 → Q (.int i) H
theorem ok__law_price (d__law_price : Dv K mg "_law_price" (top 33) ["cell", "base"]) (B : Bl mg) (C : Co mg) (R : Er K mg)  : FnOk P w K mg base CX0 1 d__law_price.f d__law_price.fd ["cell", "base"] (sp__law_price K) := by
  refine d__law_price.F.ok sc__law_price (fun vs H Q E h => ?_) (fun cdv A outer s H vs Q E hr h => ?_)
  · obtain ⟨_, _, rfl, _⟩ := h; rfl
  obtain ⟨c, b, rfl, q⟩ := h
  refine ⟨_, (pss_cons (ps_if (pt_cmpR op_eq (pe_op op_mod (pv 0) pe_int) pe_int (nomark _)) (pss_one (ps_ret (pe_op op_add pe_int (pe_op op_mod (pe_op op_fdiv (pv 0) pe_int) (pe_op op_pow pe_int pe_int))))) pss_nil) (pss_one (ps_ret (pe_op op_add pe_int (pe_op op_mod (pe_op op_add (pv 1) (pe_op op_mod (pe_op op_fdiv (pv 0) pe_int) pe_int)) (pe_op op_pow pe_int pe_int)))))), ?_⟩
  have e9 : (10 : Int) ^ (9 : Int).toNat = 1000000000 := by decide
  have bnd : ∀ x : Int, 1 ≤ 1 + x % 10 ^ (9 : Int).toNat ∧ 1 + x % 10 ^ (9 : Int).toNat ≤ 1000000000 := fun x => by rw [e9]; omega
  refine ⟨_, rfl, _, _, rfl, rfl, (by walk_at "side"), rfl, _, rfl, ?_⟩
  refine ite2 (fun _ => ?_) (fun _ => ?_)
  · exact ⟨_, rfl, _, _, rfl, rfl, ⟨by decide, by decide⟩, _, _, rfl, rfl, ⟨by decide, by decide, by decide⟩, _, _, rfl, rfl, (by show (0 : Int) < _; decide), _, _, rfl, rfl, q _ (bnd _).1 (bnd _).2⟩
  · exact ⟨_, rfl, _, rfl, _, _, rfl, rfl, ⟨by decide, by decide⟩, _, _, rfl, rfl, (by walk_at "side"), _, _, rfl, rfl, _, _, rfl, rfl, ⟨by decide, by decide, by decide⟩, _, _, rfl, rfl, (by show (0 : Int) < _; decide), _, _, rfl, rfl, q _ (bnd _).1 (bnd _).2⟩
theorem sc__law_allows : FnScope ["side", "limit", "price"] ["side", "limit", "price"] (defScope (top 34)) := ⟨rfl, rfl, rfl, by decide +kernel, rfl, by decide +kernel, by decide +kernel⟩
def sp__law_allows (K : PySem.W.Frag) : Sp := fun vs H Q _ => ∃ (s : Str) (l p : Int), vs = [.str s, .int l, .int p] ∧ Q (.bl (!aheadB s p l)) H
theorem ok__law_allows (d__law_allows : Dv K mg "_law_allows" (top 34) ["side", "limit", "price"]) (B : Bl mg) (C : Co mg) (R : Er K mg)  : FnOk P w K mg base CX0 1 d__law_allows.f d__law_allows.fd ["side", "limit", "price"] (sp__law_allows K) := by
  refine d__law_allows.F.ok sc__law_allows (fun vs H Q E h => ?_) (fun cdv A outer s H vs Q E hr h => ?_)
  · obtain ⟨_, _, _, rfl, _⟩ := h; rfl
  obtain ⟨sd, l, p, rfl, q⟩ := h
  refine ⟨_, (pss_cons (ps_if (pt_cmpR op_eq (pv 0) pe_str (nomark _)) (pss_one (ps_ret (pe_cmpR op_le (pv 2) (pv 1) (nomark _)))) pss_nil) (pss_one (ps_ret (pe_cmpR op_ge (pv 2) (pv 1) (nomark _))))), ?_⟩
  unfold aheadB at q
  refine ⟨_, rfl, rfl, _, rfl, ?_⟩
  refine ite2 (fun c => ?_) (fun c => ?_)
  · rw [if_pos (by simpa using c), show (!decide (l < p)) = decide (p ≤ l) by rw [← decide_not]; exact decide_eq_decide.mpr (by omega)] at q
    exact ⟨_, rfl, _, rfl, _, _, rfl, rfl, q⟩
  · rw [if_neg (by simpa using c), show (!decide (p < l)) = decide (l ≤ p) by rw [← decide_not]; exact decide_eq_decide.mpr (by omega)] at q
    exact ⟨_, rfl, _, rfl, _, _, rfl, rfl, q⟩
theorem sc__law_incoming : FnScope ["script", "side", "base", "limit", "cell", "want", "shown", "peak", "low", "who"] ["script", "side", "base"] (defScope (top 35)) := ⟨rfl, rfl, rfl, by decide +kernel, rfl, by decide +kernel, by decide +kernel⟩
def sp__law_incoming (K : PySem.W.Frag) : Sp := fun vs H Q _ => ∃ (a : Addr) (ns : List Int) (sd : Str) (b : Int), vs = [.ref a, .str sd, .int b] ∧ SqL K H a (ns.map V.int) ∧ ∀ (H' : Hp) (t : Addr) (o : Od), Same H H' → H' t = some (.tup (odV o)) → o.s = sd → 1 ≤ o.l → o.l ≤ 1000000000 → 1 ≤ o.pr → o.pr ≤ 1000000000 → Q (.ref t) H'
theorem ok__law_incoming (d__law_incoming : Dv K mg "_law_incoming" (top 35) ["script", "side", "base"]) (B : Bl mg) (C : Co mg) (R : Er K mg) (d__law_price : Dv K mg "_law_price" (top 33) ["cell", "base"]) (G__law_price : FnOk P w K mg base CX0 1 d__law_price.f d__law_price.fd ["cell", "base"] (sp__law_price K)) (d__law_cell_at : Dv K mg "_law_cell_at" (top 31) ["script", "k"]) (G__law_cell_at : FnOk P w K mg base CX0 1 d__law_cell_at.f d__law_cell_at.fd ["script", "k"] (sp__law_cell_at K)) (d__law_name : Dv K mg "_law_name" (top 32) ["k", "cell"]) (G__law_name : FnOk P w K mg base CX0 1 d__law_name.f d__law_name.fd ["k", "cell"] (sp__law_name K)) : FnOk P w K mg base CX0 2 d__law_incoming.f d__law_incoming.fd ["script", "side", "base"] (sp__law_incoming K) := by
  refine d__law_incoming.F.ok sc__law_incoming (fun vs H Q E h => ?_) (fun cdv A outer s H vs Q E hr h => ?_)
  · obtain ⟨_, _, _, _, rfl, _⟩ := h; rfl
  obtain ⟨a, ns, sd, b, rfl, hS, q⟩ := h
  refine ⟨_, (pss_cons (ps_set (i := 3) sc__law_incoming.nd rfl (Or.inl rfl) (pe_call G__law_price (hr.mono (by decide)) rfl d__law_price.m d__law_price.F.kp d__law_price.b .nil pass0 (pa_cons (pe_call G__law_cell_at (hr.mono (by decide)) rfl d__law_cell_at.m d__law_cell_at.F.kp d__law_cell_at.b .nil pass0 (pa_cons (pv 0) (pa_cons pe_int pa_nil))) (pa_cons (pv 2) pa_nil)))) (pss_cut (ps_if (pt_cmpR op_eq (pe_op op_mod (pe_op op_fdiv (pe_call G__law_cell_at (hr.mono (by decide)) rfl d__law_cell_at.m d__law_cell_at.F.kp d__law_cell_at.b .nil pass0 (pa_cons (pv 0) (pa_cons pe_int pa_nil))) pe_int) pe_int) pe_int (nomark _)) (pss_one (ps_set (i := 3) sc__law_incoming.nd rfl (Or.inl rfl) (pe_ix ix_list (pe_lst (pa_cons pe_int (pa_cons (pe_op op_pow pe_int pe_int) pa_nil))) (pe_callTy call_int1 rfl B.b_int PyProof.Rows.boot_int (pa_cons (pe_cmpR op_eq (pv 1) pe_str (nomark _)) pa_nil)) (fun _ _ => rfl)))) pss_nil) (pss_cons (ps_set (i := 4) sc__law_incoming.nd rfl (Or.inl rfl) (pe_call G__law_cell_at (hr.mono (by decide)) rfl d__law_cell_at.m d__law_cell_at.F.kp d__law_cell_at.b .nil pass0 (pa_cons (pv 0) (pa_cons pe_int pa_nil)))) (pss_cons (ps_set (i := 5) sc__law_incoming.nd rfl (Or.inl rfl) (pe_ix ix_list (pe_lst (pa_cons (pe_op op_add pe_int (pe_op op_mod (pe_op op_fdiv (pv 4) pe_int) pe_int)) (pa_cons (pe_op op_add pe_int (pe_op op_mod (pe_op op_fdiv (pv 4) pe_int) (pe_op op_pow pe_int pe_int))) (pa_cons (pe_op op_sub (pe_op op_pow pe_int pe_int) (pe_op op_mod (pe_op op_fdiv (pv 4) pe_int) pe_int)) pa_nil)))) (pe_op op_mod (pv 4) pe_int) (fun _ _ => rfl))) (pss_cons (ps_set (i := 6) sc__law_incoming.nd rfl (Or.inl rfl) (pv 5)) (pss_cons (ps_set (i := 7) sc__law_incoming.nd rfl (Or.inl rfl) pe_int) (pss_cut (ps_if (pt_cmpR op_eq (pe_op op_mod (pe_call G__law_cell_at (hr.mono (by decide)) rfl d__law_cell_at.m d__law_cell_at.F.kp d__law_cell_at.b .nil pass0 (pa_cons (pv 0) (pa_cons pe_int pa_nil))) pe_int) pe_int (nomark _)) (pss_cons (ps_set (i := 8) sc__law_incoming.nd rfl (Or.inl rfl) (pe_op op_fdiv (pe_op op_add (pv 5) pe_int) pe_int)) (pss_cons (ps_set (i := 7) sc__law_incoming.nd rfl (Or.inl rfl) (pe_op op_add (pv 8) (pe_op op_mod (pe_op op_fdiv (pe_call G__law_cell_at (hr.mono (by decide)) rfl d__law_cell_at.m d__law_cell_at.F.kp d__law_cell_at.b .nil pass0 (pa_cons (pv 0) (pa_cons pe_int pa_nil))) pe_int) (pe_op op_add (pe_op op_sub (pv 5) (pv 8)) pe_int)))) (pss_one (ps_set (i := 6) sc__law_incoming.nd rfl (Or.inl rfl) (pv 7))))) pss_nil) (pss_cons (ps_set (i := 9) sc__law_incoming.nd rfl (Or.inl rfl) (pe_call G__law_name (hr.mono (by decide)) rfl d__law_name.m d__law_name.F.kp d__law_name.b .nil pass0 (pa_cons (pe_op op_mod (pe_call G__law_cell_at (hr.mono (by decide)) rfl d__law_cell_at.m d__law_cell_at.F.kp d__law_cell_at.b .nil pass0 (pa_cons (pv 0) (pa_cons pe_int pa_nil))) pe_int) (pa_cons (pe_call G__law_cell_at (hr.mono (by decide)) rfl d__law_cell_at.m d__law_cell_at.F.kp d__law_cell_at.b .nil pass0 (pa_cons (pv 0) (pa_cons pe_int pa_nil))) pa_nil)))) (pss_one (ps_ret (pe_tup (pa_cons (pe_call G__law_name (hr.mono (by decide)) rfl d__law_name.m d__law_name.F.kp d__law_name.b .nil pass0 (pa_cons pe_int (pa_cons (pe_call G__law_cell_at (hr.mono (by decide)) rfl d__law_cell_at.m d__law_cell_at.F.kp d__law_cell_at.b .nil pass0 (pa_cons (pv 0) (pa_cons pe_int pa_nil))) pa_nil))) (pa_cons (pv 9) (pa_cons (pv 1) (pa_cons (pv 3) (pa_cons (pv 5) (pa_cons (pv 6) (pa_cons (pv 7) pa_nil)))))))))))))))))), ?_⟩
  have e9 : (10 : Int) ^ (9 : Int).toNat = 1000000000 := by decide
  refine ⟨_, rfl, a, ns, _, rfl, hS, by decide, _, rfl, _, _, rfl, fun lim0 hl1 hl2 => ?_⟩
  refine ⟨fun σ' H' => ∃ lim : Int, σ' = [some (.ref a), some (.str sd), some (.int b), some (.int lim), none, none, none, none, none, none] ∧ Same H H' ∧ 1 ≤ lim ∧ lim ≤ 1000000000, ?_, ?_⟩
  · refine ⟨_, rfl, a, ns, _, rfl, hS, by decide, _, _, rfl, rfl, ⟨by decide, by decide⟩, _, _, rfl, rfl, (by walk_at "side"), rfl, _, rfl, ?_⟩
    refine ite2 (fun _ => ?_) (fun _ => ?_)
    · refine ⟨_, _, rfl, rfl, ⟨by decide, by decide, by decide⟩, by walk_at "sz", fun l0 hl0 => ?_⟩
      obtain ⟨lim, alim, hlim⟩ : ∃ lim : Int, atI [V.int 1, V.int (10 ^ (9 : Int).toNat)] (if decide (V.str sd = V.str "buy") = true then 1 else 0) = some (.int lim) ∧ 1 ≤ lim ∧ lim ≤ 1000000000 := by
        by_cases e : decide (V.str sd = V.str "buy") = true
        · exact ⟨10 ^ (9 : Int).toNat, by rw [if_pos e]; rfl, by rw [e9]; decide⟩
        · exact ⟨1, by rw [if_neg e]; rfl, by decide⟩
      exact ⟨_, rfl, rfl, .inr ⟨_, rfl, l0, _, _, _, rfl, rfl, .inl (.inl upd_same), alim, lim, rfl, same_upd hl0, hlim⟩⟩
    · exact ⟨lim0, rfl, Same.refl H, hl1, hl2⟩
  rintro _ H1 ⟨lim, rfl, s1, hlim⟩
  have hS1 := s1.seq hS
  refine ⟨_, rfl, a, ns, _, rfl, hS1, by decide, ?_⟩
  obtain ⟨w, aw, hw1, hw2⟩ : ∃ w : Int, atI [V.int (1 + cell ns 2 / 3 % 30), V.int (1 + cell ns 2 / 3 % 10 ^ (9 : Int).toNat), V.int (10 ^ (9 : Int).toNat - cell ns 2 / 3 % 9)] (cell ns 2 % 3) = some (.int w) ∧ 1 ≤ w ∧ w ≤ 1000000000 := by
    have : cell ns 2 % 3 = 0 ∨ cell ns 2 % 3 = 1 ∨ cell ns 2 % 3 = 2 := by omega
    rcases this with e | e | e
    · exact ⟨_, by rw [e]; rfl, by omega⟩
    · exact ⟨_, by rw [e]; rfl, by rw [e9]; omega⟩
    · exact ⟨_, by rw [e]; rfl, by rw [e9]; omega⟩
  refine ⟨_, rfl, _, _, rfl, rfl, ⟨by decide, by decide⟩, _, _, rfl, rfl, (by walk_at "side"), _, _, rfl, rfl, _, rfl, _, _, rfl, rfl, ⟨by decide, by decide⟩, _, _, rfl, rfl, ⟨by decide, by decide, by decide⟩, _, _, rfl, rfl, (by show (0 : Int) < _; decide), _, _, rfl, rfl, _, _, rfl, rfl, ⟨by decide, by decide, by decide⟩, _, rfl, _, _, rfl, rfl, ⟨by decide, by decide⟩, _, _, rfl, rfl, (by walk_at "side"), _, _, rfl, rfl, by walk_at "sz", fun l1 hl1 => ?_⟩
  refine ⟨_, rfl, _, _, rfl, rfl, (by walk_at "side"), l1, _, _, _, rfl, rfl, .inl (.inl upd_same), aw, ?_⟩
  have s2 := same_upd' (u := .lst [V.int (1 + cell ns 2 / 3 % 30), V.int (1 + cell ns 2 / 3 % 10 ^ (9 : Int).toNat), V.int (10 ^ (9 : Int).toNat - cell ns 2 / 3 % 9)]) s1 hl1
  have hS2 := s2.seq hS
  refine ⟨_, rfl, ?_⟩
  refine ⟨fun σ' H' => ∃ (shn pk : Int) (v8 : Option V), σ' = [some (.ref a), some (.str sd), some (.int b), some (.int lim), some (.int (cell ns 2)), some (.int w), some (.int shn), some (.int pk), v8, none] ∧ Same H H', ?_, ?_⟩
  · refine ⟨_, rfl, a, ns, _, rfl, hS2, by decide, _, _, rfl, rfl, (by walk_at "side"), rfl, _, rfl, ?_⟩
    refine ite2 (fun _ => ?_) (fun _ => ?_)
    · refine ⟨_, rfl, _, _, rfl, rfl, _, _, rfl, rfl, ⟨by decide, by decide⟩, ?_⟩
      refine ⟨_, rfl, _, rfl, a, ns, _, rfl, hS2, by decide, _, _, rfl, rfl, ⟨by decide, by decide⟩, _, rfl, _, rfl, _, _, rfl, rfl, _, _, rfl, rfl, _, _, rfl, rfl, (by show (0 : Int) < _; omega), _, _, rfl, rfl, ?_⟩
      exact ⟨_, rfl, _, _, _, rfl, s2⟩
    · exact ⟨_, _, _, rfl, s2⟩
  rintro _ H2 ⟨shn, pk, v8, rfl, s3⟩
  have hS3 := s3.seq hS
  refine ⟨_, rfl, a, ns, _, rfl, hS3, by decide, _, _, rfl, rfl, (by walk_at "side"), _, rfl, a, ns, _, rfl, hS3, by decide, _, _, rfl, by omega, by omega, fun wz H3 s4 hwz _ => ?_⟩
  have s5 := s3.trans s4
  refine ⟨_, rfl, a, ns, _, rfl, s5.seq hS, by decide, _, _, rfl, by decide, by decide, fun nz H4 s6 hnz _ => ?_⟩
  refine ⟨_, rfl, _, rfl, _, rfl, _, rfl, _, rfl, _, rfl, by walk_at "sz", fun t ht => ?_⟩
  exact q _ t ⟨nz, wz, sd, lim, w, shn, pk⟩ (same_upd' (s5.trans s6) ht) upd_same rfl hw1 hw2 hlim.1 hlim.2
theorem sc__law_sized : FnScope ["cell", "left", "peak", "mixed", "shown", "hidden"] ["cell"] (defScope (top 36)) := ⟨rfl, rfl, rfl, by decide +kernel, rfl, by decide +kernel, by decide +kernel⟩
def sp__law_sized (K : PySem.W.Frag) : Sp := fun vs H Q _ => ∃ (c : Int), vs = [.int c] ∧ ∀ (H' : Hp) (t : Addr) (l sh pk : Int), Same H H' → H' t = some (.tup [.int l, .int sh, .int pk]) → Szd l sh pk → Q (.ref t) H'
theorem ok__law_sized (d__law_sized : Dv K mg "_law_sized" (top 36) ["cell"]) (B : Bl mg) (C : Co mg) (R : Er K mg)  : FnOk P w K mg base CX0 1 d__law_sized.f d__law_sized.fd ["cell"] (sp__law_sized K) := by
  refine d__law_sized.F.ok sc__law_sized (fun vs H Q E h => ?_) (fun cdv A outer s H vs Q E hr h => ?_)
  · obtain ⟨_, rfl, _⟩ := h; rfl
  obtain ⟨c, rfl, q⟩ := h
  refine ⟨_, (pss_cons (ps_if (pt_cmpR op_gt (pe_op op_mod (pe_op op_fdiv (pv 0) pe_int) pe_int) pe_int (nomark _)) (pss_cons (ps_set (i := 1) sc__law_sized.nd rfl (Or.inl rfl) (pe_op op_add pe_int (pe_op op_mod (pe_op op_fdiv (pv 0) pe_int) (pe_ix ix_list (pe_lst (pa_cons pe_int (pa_cons pe_int (pa_cons pe_int (pa_cons (pe_op op_pow pe_int pe_int) pa_nil))))) (pe_op op_mod (pv 0) pe_int) (fun _ _ => rfl))))) (pss_one (ps_ret (pe_tup (pa_cons (pv 1) (pa_cons (pv 1) (pa_cons pe_int pa_nil))))))) pss_nil) (pss_cons (ps_set (i := 2) sc__law_sized.nd rfl (Or.inl rfl) (pe_op op_add pe_int (pe_op op_mod (pe_op op_fdiv (pv 0) pe_int) (pe_ix ix_list (pe_lst (pa_cons pe_int (pa_cons pe_int (pa_cons pe_int (pa_cons (pe_op op_pow pe_int pe_int) pa_nil))))) (pe_op op_mod (pv 0) pe_int) (fun _ _ => rfl))))) (pss_cons (ps_set (i := 3) sc__law_sized.nd rfl (Or.inl rfl) (pe_op op_mod (pe_op op_mul (pv 0) pe_int) pe_int)) (pss_cons (ps_set (i := 4) sc__law_sized.nd rfl (Or.inl rfl) (pe_op op_add pe_int (pe_op op_mod (pv 3) (pv 2)))) (pss_cons (ps_set (i := 5) sc__law_sized.nd rfl (Or.inl rfl) (pe_op op_mod (pe_op op_fdiv (pv 3) pe_int) (pe_op op_add (pe_callB (call_min2 rfl) rfl B.b_min PyProof.Rows.boot_min (pa_cons (pe_op op_mul (pe_ix ix_list (pe_lst (pa_cons pe_int (pa_cons pe_int pa_nil))) (pe_op op_fdiv (pe_op op_mod (pv 3) pe_int) pe_int) (fun _ _ => rfl)) (pv 2)) (pa_cons (pe_op op_sub (pe_op op_pow pe_int pe_int) (pv 2)) pa_nil))) pe_int))) (pss_one (ps_ret (pe_tup (pa_cons (pe_op op_add (pv 4) (pv 5)) (pa_cons (pv 4) (pa_cons (pv 2) pa_nil))))))))))), ?_⟩
  have e9 : (10 : Int) ^ (9 : Int).toNat = 1000000000 := by decide
  obtain ⟨dv, adv, hdv1, hdv2⟩ : ∃ dv : Int, atI [V.int 4, V.int 4, V.int 4, V.int (10 ^ (9 : Int).toNat)] (c % 4) = some (.int dv) ∧ 1 ≤ dv ∧ dv ≤ 1000000000 := by
    have : c % 4 = 0 ∨ c % 4 = 1 ∨ c % 4 = 2 ∨ c % 4 = 3 := by omega
    rcases this with e | e | e | e
    · exact ⟨4, by rw [e]; rfl, by decide⟩
    · exact ⟨4, by rw [e]; rfl, by decide⟩
    · exact ⟨4, by rw [e]; rfl, by decide⟩
    · exact ⟨_, by rw [e]; rfl, by decide⟩
  have md0 := Int.emod_nonneg (c / 6) (show dv ≠ 0 by omega)
  have md1 := Int.emod_lt_of_pos (c / 6) (show 0 < dv by omega)
  refine ⟨_, rfl, _, _, rfl, rfl, ⟨by decide, by decide⟩, _, _, rfl, rfl, (by walk_at "side"), _, _, rfl, rfl, _, rfl, ?_⟩
  refine ite2 (fun _ => ?_) (fun _ => ?_)
  · refine ⟨_, rfl, _, _, rfl, rfl, ⟨by decide, by decide⟩, _, _, rfl, rfl, ⟨by decide, by decide, by decide⟩, by walk_at "sz", fun l0 hl0 => ?_⟩
    refine ⟨_, rfl, _, _, rfl, rfl, (by walk_at "side"), l0, _, _, _, rfl, rfl, .inl (.inl upd_same), adv, _, _, rfl, rfl, (by show (0 : Int) < _; omega), _, _, rfl, rfl, ?_⟩
    refine ⟨_, rfl, _, rfl, by walk_at "sz", fun t ht => q _ t _ _ _ (same_upd' (same_upd hl0) ht) upd_same ?_⟩
    refine ⟨by omega, by omega, by omega, by omega, fun _ => rfl, fun z => absurd rfl z, by omega⟩
  · refine ⟨_, rfl, _, _, rfl, rfl, ⟨by decide, by decide⟩, _, _, rfl, rfl, ⟨by decide, by decide, by decide⟩, by walk_at "sz", fun l0 hl0 => ?_⟩
    refine ⟨_, rfl, _, _, rfl, rfl, (by walk_at "side"), l0, _, _, _, rfl, rfl, .inl (.inl upd_same), adv, _, _, rfl, rfl, (by show (0 : Int) < _; omega), _, _, rfl, rfl, ?_⟩
    refine ⟨_, rfl, _, _, rfl, rfl, .inr ⟨by decide, by decide⟩, _, _, rfl, rfl, (by show (0 : Int) < _; decide), ?_⟩
    refine ⟨_, rfl, _, rfl, _, _, rfl, rfl, (by show (0 : Int) < _; omega), _, _, rfl, rfl, ?_⟩
    have hp1 : 1 ≤ 1 + c / 6 % dv := by omega
    have hp2 : 1 + c / 6 % dv ≤ 1000000000 := by omega
    have hs0 := Int.emod_nonneg (c * 48271 % 2147483647) (show 1 + c / 6 % dv ≠ 0 by omega)
    have hs1 := Int.emod_lt_of_pos (c * 48271 % 2147483647) (show 0 < 1 + c / 6 % dv by omega)
    refine ⟨_, rfl, _, _, rfl, rfl, ⟨by decide, by decide⟩, by walk_at "sz", fun l2 hl2 => ?_⟩
    obtain ⟨f, af, hf1, hf2⟩ : ∃ f : Int, atI [V.int 3, V.int 15] (c * 48271 % 2147483647 % 8 / 7) = some (.int f) ∧ 1 ≤ f ∧ f ≤ 15 := by
      have : c * 48271 % 2147483647 % 8 / 7 = 0 ∨ c * 48271 % 2147483647 % 8 / 7 = 1 := by omega
      rcases this with e | e
      · exact ⟨3, by rw [e]; rfl, by decide⟩
      · exact ⟨15, by rw [e]; rfl, by decide⟩
    have hfp : 1 ≤ f * (1 + c / 6 % dv) := by
      have := Int.mul_le_mul hf1 hp1 (by decide) (by omega)
      omega
    have hh : 0 < (if 10 ^ (9 : Int).toNat - (1 + c / 6 % dv) < f * (1 + c / 6 % dv) then 10 ^ (9 : Int).toNat - (1 + c / 6 % dv) else f * (1 + c / 6 % dv)) + 1 := by
      rw [e9]; split <;> omega
    refine ⟨_, rfl, _, _, rfl, rfl, (by walk_at "side"), _, _, rfl, rfl, ⟨by decide, by decide⟩, l2, _, _, _, rfl, rfl, .inl (.inl upd_same), af, _, rfl, _, _, rfl, rfl, .inl ⟨by omega, by omega⟩, _, _, rfl, rfl, ⟨by decide, by decide, by decide⟩, _, rfl, _, _, rfl, rfl, _, _, rfl, _, _, rfl, rfl, _, _, rfl, rfl, hh, ?_⟩
    have hi0 := Int.emod_nonneg (c * 48271 % 2147483647 / 3) (Int.ne_of_gt hh)
    have hi1 := Int.emod_lt_of_pos (c * 48271 % 2147483647 / 3) hh
    refine ⟨_, rfl, _, rfl, _, _, rfl, rfl, _, rfl, _, rfl, by walk_at "sz", fun t ht => q _ t _ _ _ (same_upd' (same_upd' (same_upd hl0) hl2) ht) upd_same ?_⟩
    have hi2 : c * 48271 % 2147483647 / 3 % ((if 10 ^ (9 : Int).toNat - (1 + c / 6 % dv) < f * (1 + c / 6 % dv) then 10 ^ (9 : Int).toNat - (1 + c / 6 % dv) else f * (1 + c / 6 % dv)) + 1) ≤ 1000000000 - (1 + c / 6 % dv) := by
      have : (if 10 ^ (9 : Int).toNat - (1 + c / 6 % dv) < f * (1 + c / 6 % dv) then 10 ^ (9 : Int).toNat - (1 + c / 6 % dv) else f * (1 + c / 6 % dv)) ≤ 1000000000 - (1 + c / 6 % dv) := by
        rw [e9]; split <;> omega
      omega
    have hi3 : c * 48271 % 2147483647 / 3 % ((if 10 ^ (9 : Int).toNat - (1 + c / 6 % dv) < f * (1 + c / 6 % dv) then 10 ^ (9 : Int).toNat - (1 + c / 6 % dv) else f * (1 + c / 6 % dv)) + 1) ≤ 15 * (1 + c / 6 % dv) := by
      have h15 : f * (1 + c / 6 % dv) ≤ 15 * (1 + c / 6 % dv) := Int.mul_le_mul_of_nonneg_right hf2 (by omega)
      have : (if 10 ^ (9 : Int).toNat - (1 + c / 6 % dv) < f * (1 + c / 6 % dv) then 10 ^ (9 : Int).toNat - (1 + c / 6 % dv) else f * (1 + c / 6 % dv)) ≤ 15 * (1 + c / 6 % dv) := by
        split <;> omega
      omega
    refine ⟨by omega, by omega, by omega, by omega, fun z => by omega, fun _ => by omega, by omega⟩
theorem sc__law_put : FnScope ["line", "one", "at"] ["line", "one"] (defScope (top 37)) := ⟨rfl, rfl, rfl, by decide +kernel, rfl, by decide +kernel, by decide +kernel⟩
def sp__law_put (K : PySem.W.Frag) : Sp := fun vs H Q _ => ∃ (p : Addr) (ps : List AO) (t : Addr) (o : Od), vs = [.ref p, .ref t] ∧ SqL K H p (ps.map rf) ∧ Ords H ps ∧ H t = some (.tup (odV o)) ∧ ps.length ≤ 1000 ∧ ∀ (H' : Hp) (l : Addr), Same H H' → H' l = some (.lst ((ins (t, o) ps).map rf)) → Q (.ref l) H'
theorem ok__law_put (d__law_put : Dv K mg "_law_put" (top 37) ["line", "one"]) (B : Bl mg) (C : Co mg) (R : Er K mg) (d__law_allows : Dv K mg "_law_allows" (top 34) ["side", "limit", "price"]) (G__law_allows : FnOk P w K mg base CX0 1 d__law_allows.f d__law_allows.fd ["side", "limit", "price"] (sp__law_allows K)) : FnOk P w K mg base CX0 2 d__law_put.f d__law_put.fd ["line", "one"] (sp__law_put K) := by
  refine d__law_put.F.ok sc__law_put (fun vs H Q E h => ?_) (fun cdv A outer s H vs Q E hr h => ?_)
  · obtain ⟨_, _, _, _, rfl, _⟩ := h; rfl
  obtain ⟨p, ps, t, o, rfl, hS, hO, ht, hl, q⟩ := h
  refine ⟨_, (pss_cons (ps_set (i := 2) sc__law_put.nd rfl (Or.inl rfl) pe_int) (pss_cut (ps_while PassesOwn.never (PW.pt (pw_and (pt_cmpR op_lt (pv 2) (pe_callB call_len_seq rfl B.b_len PySem.boot_len (pa_cons (pv 0) pa_nil)) (nomark _)) (pw_and1 (pt_val (pe_call G__law_allows (hr.mono (by decide)) rfl d__law_allows.m d__law_allows.F.kp d__law_allows.b .nil pass0 (pa_cons (pe_ix ix_tup (pv 1) pe_int (fun _ _ => rfl)) (pa_cons (pe_ix ix_tup (pe_ix ix_list (pv 0) (pv 2) (fun _ _ => rfl)) pe_int (fun _ _ => rfl)) (pa_cons (pe_ix ix_tup (pv 1) pe_int (fun _ _ => rfl)) pa_nil)))) (fun _ => rfl))))) (pss_one (ps_set (i := 2) sc__law_put.nd rfl (Or.inl rfl) (pe_op op_add (pv 2) pe_int)))) (pss_one (ps_ret (pe_op op_cat (pe_op op_cat (pe_slice sl_list (pv 0) po_none (po_some (pv 2))) (pe_lst (pa_cons (pv 1) pa_nil))) (pe_slice sl_list (pv 0) (po_some (pv 2)) po_none)))))), ?_⟩
  refine ⟨fun σ' H' => σ' = [some (.ref p), some (.ref t), some (.int (place o.s o.pr ps))] ∧ H = H', ?_, ?_⟩
  · refine ⟨fun m σ' H' => ∃ k : Nat, m = ps.length - k ∧ k ≤ place o.s o.pr ps ∧ σ' = [some (.ref p), some (.ref t), some (.int k)] ∧ H = H', ⟨_, 0, rfl, Nat.zero_le _, rfl, rfl⟩, ?_⟩
    rintro m _ _ ⟨k, rfl, hk, rfl, rfl⟩
    have hpl := place_le o.s o.pr ps
    have hlen : (((ps.map rf).length : Nat) : Int) = ps.length := by rw [List.length_map]
    refine ⟨_, rfl, _, rfl, p, _, rfl, .inl hS, _, _, rfl, rfl, _, rfl, ?_⟩
    refine ite2 (fun c1 => ?_) (fun c1 => ?_)
    · have c2 : k < ps.length := by have := of_decide_eq_true c1; omega
      have ax : atI (ps.map rf) (k : Int) = some (rf ps[k]) := atI_nat (by rw [List.getElem?_map, List.getElem?_eq_getElem c2]; rfl)
      have hx := hO ps[k] (List.getElem_mem c2)
      obtain ⟨st1, st2⟩ := place_step o.s o.pr ps k ps[k] (List.getElem?_eq_getElem c2) hk
      refine ⟨_, rfl, t, _, _, _, rfl, rfl, .inl (.inl ht), rfl, _, rfl, _, rfl, p, _, _, _, rfl, rfl, hS, ax, ps[k].1, _, _, _, rfl, rfl, .inl (.inl hx), rfl, _, rfl, t, _, _, _, rfl, rfl, .inl (.inl ht), rfl, _, _, _, rfl, _, rfl, ?_⟩
      refine ite2 (fun c3 => ?_) (fun c3 => ?_)
      · have c4 := st1 (by simpa using c3)
        refine ⟨fun σ' H' => σ' = [some (.ref p), some (.ref t), some (.int ((k : Int) + 1))] ∧ H = H', ?_, _, rfl, _, _, rfl, rfl, rfl, rfl⟩
        rintro _ _ ⟨rfl, rfl⟩
        exact ⟨ps.length - (k + 1), by omega, k + 1, rfl, c4, by rw [Int.natCast_add]; rfl, rfl⟩
      · have c4 := st2 (by simpa using c3)
        exact ⟨by rw [← c4], rfl⟩
    · have c2 : ¬ k < ps.length := fun z => c1 (decide_eq_true (by omega))
      have c4 : k = place o.s o.pr ps := by omega
      exact iteF ⟨by rw [← c4], rfl⟩
  rintro _ _ ⟨rfl, rfl⟩
  have hpl := place_le o.s o.pr ps
  refine ⟨_, rfl, _, rfl, _, rfl, p, _, rfl, hS, fun q1 hq1 => ⟨_, rfl, by walk_at "sz", fun q2 hq2 => ?_⟩⟩
  rw [cut_take ps hpl] at hq2 ⊢
  refine ⟨q1, q2, _, _, rfl, rfl, at_upd upd_same hq2, upd_same, by rw [List.length_map, List.length_take]; exact szOk (by show min _ _ + 1 ≤ _; omega), fun q3 hq3 => ?_⟩
  have s3 := same_upd' (u := .lst ((ps.take (place o.s o.pr ps)).map rf ++ [V.ref t])) (same_upd' (u := .lst [V.ref t]) (same_upd (u := .lst ((ps.take (place o.s o.pr ps)).map rf)) hq1) hq2) hq3
  refine ⟨_, rfl, _, rfl, _, rfl, p, _, rfl, s3.seq hS, fun q4 hq4 => ?_⟩
  rw [cut_drop ps hpl]
  refine ⟨q3, q4, _, _, rfl, rfl, at_upd upd_same hq4, upd_same, ?_, fun q5 hq5 => q _ q5 (same_upd' (same_upd' s3 hq4) hq5) ?_⟩
  · rw [List.length_append, List.length_map, List.length_map, List.length_take, List.length_drop]
    exact szOk (by show min _ _ + 1 + _ ≤ _; omega)
  · rw [upd_same]
    show _ = some (HO.lst ((ins (t, o) ps).map rf))
    unfold ins
    rw [List.map_append, List.map_cons, List.append_assoc]
    rfl
theorem sc__law_line : FnScope ["script", "side", "base", "line", "k", "cell", "who", "head"] ["script", "side", "base"] (defScope (top 38)) := ⟨rfl, rfl, rfl, by decide +kernel, rfl, by decide +kernel, by decide +kernel⟩
def sp__law_line (K : PySem.W.Frag) : Sp := fun vs H Q _ => ∃ (a : Addr) (ns : List Int) (sd : Str) (b : Int), vs = [.ref a, .str sd, .int b] ∧ SqL K H a (ns.map V.int) ∧ ns.length ≤ 63 ∧ ∀ (H' : Hp) (l : Addr) (ps : List AO), Same H H' → H' l = some (.lst (ps.map rf)) → Ords H' ps → (∀ x ∈ ps, x.2.s = sd ∧ Szd x.2.l x.2.sh x.2.pk) → ps.length ≤ 25 → (ps.map fun x => x.2.n).Nodup → Srt sd ps → Q (.ref l) H'
theorem ok__law_line (d__law_line : Dv K mg "_law_line" (top 38) ["script", "side", "base"]) (B : Bl mg) (C : Co mg) (R : Er K mg) (d__law_cell_at : Dv K mg "_law_cell_at" (top 31) ["script", "k"]) (G__law_cell_at : FnOk P w K mg base CX0 1 d__law_cell_at.f d__law_cell_at.fd ["script", "k"] (sp__law_cell_at K)) (d__law_name : Dv K mg "_law_name" (top 32) ["k", "cell"]) (G__law_name : FnOk P w K mg base CX0 1 d__law_name.f d__law_name.fd ["k", "cell"] (sp__law_name K)) (d__law_price : Dv K mg "_law_price" (top 33) ["cell", "base"]) (G__law_price : FnOk P w K mg base CX0 1 d__law_price.f d__law_price.fd ["cell", "base"] (sp__law_price K)) (d__law_put : Dv K mg "_law_put" (top 37) ["line", "one"]) (G__law_put : FnOk P w K mg base CX0 2 d__law_put.f d__law_put.fd ["line", "one"] (sp__law_put K)) (d__law_sized : Dv K mg "_law_sized" (top 36) ["cell"]) (G__law_sized : FnOk P w K mg base CX0 1 d__law_sized.f d__law_sized.fd ["cell"] (sp__law_sized K)) : FnOk P w K mg base CX0 3 d__law_line.f d__law_line.fd ["script", "side", "base"] (sp__law_line K) := by
  refine d__law_line.F.ok sc__law_line (fun vs H Q E h => ?_) (fun cdv A outer s H vs Q E hr h => ?_)
  · obtain ⟨_, _, _, _, rfl, _⟩ := h; rfl
  obtain ⟨a, ns, sd, b, rfl, hS, hn, q⟩ := h
  refine ⟨_, (pss_cons (ps_set (i := 3) sc__law_line.nd rfl (Or.inl rfl) (pe_lst pa_nil)) (pss_cons (ps_for PassesOwn.never rfl (pi_range1 rfl B.b_range (pa_cons (pe_callB (call_min2 rfl) rfl B.b_min PyProof.Rows.boot_min (pa_cons pe_int (pa_cons (pe_op op_fdiv (pe_op op_sub (pe_callB call_len_seq rfl B.b_len PySem.boot_len (pa_cons (pv 0) pa_nil)) pe_int) pe_int) pa_nil))) pa_nil)) (pg_name (i := 4) sc__law_line.nd rfl (Or.inl rfl)) (pss_cons (ps_set (i := 5) sc__law_line.nd rfl (Or.inl rfl) (pe_call G__law_cell_at (hr.mono (by decide)) rfl d__law_cell_at.m d__law_cell_at.F.kp d__law_cell_at.b .nil pass0 (pa_cons (pv 0) (pa_cons (pe_op op_add pe_int (pe_op op_mul pe_int (pv 4))) pa_nil)))) (pss_cons (ps_set (i := 6) sc__law_line.nd rfl (Or.inl rfl) (pe_call G__law_name (hr.mono (by decide)) rfl d__law_name.m d__law_name.F.kp d__law_name.b .nil pass0 (pa_cons (pe_op op_mod (pv 5) pe_int) (pa_cons (pe_call G__law_cell_at (hr.mono (by decide)) rfl d__law_cell_at.m d__law_cell_at.F.kp d__law_cell_at.b .nil pass0 (pa_cons (pv 0) (pa_cons pe_int pa_nil))) pa_nil)))) (pss_cons (ps_set (i := 7) sc__law_line.nd rfl (Or.inl rfl) (pe_tup (pa_cons (pe_call G__law_name (hr.mono (by decide)) rfl d__law_name.m d__law_name.F.kp d__law_name.b .nil pass0 (pa_cons (pv 4) (pa_cons (pe_call G__law_cell_at (hr.mono (by decide)) rfl d__law_cell_at.m d__law_cell_at.F.kp d__law_cell_at.b .nil pass0 (pa_cons (pv 0) (pa_cons pe_int pa_nil))) pa_nil))) (pa_cons (pv 6) (pa_cons (pv 1) (pa_cons (pe_call G__law_price (hr.mono (by decide)) rfl d__law_price.m d__law_price.F.kp d__law_price.b .nil pass0 (pa_cons (pe_op op_fdiv (pv 5) pe_int) (pa_cons (pv 2) pa_nil))) pa_nil)))))) (pss_one (ps_set (i := 3) sc__law_line.nd rfl (Or.inl rfl) (pe_call G__law_put (hr.mono (by decide)) rfl d__law_put.m d__law_put.F.kp d__law_put.b .nil pass0 (pa_cons (pv 3) (pa_cons (pe_op op_catT (pv 7) (pe_call G__law_sized (hr.mono (by decide)) rfl d__law_sized.m d__law_sized.F.kp d__law_sized.b .nil pass0 (pa_cons (pe_call G__law_cell_at (hr.mono (by decide)) rfl d__law_cell_at.m d__law_cell_at.F.kp d__law_cell_at.b .nil pass0 (pa_cons (pv 0) (pa_cons (pe_op op_add pe_int (pe_op op_mul pe_int (pv 4))) pa_nil))) pa_nil))) pa_nil))))))))) (pss_one (ps_ret (pv 3))))), ?_⟩
  refine ⟨by walk_at "sz", fun l0 hl0 => ?_⟩
  have s0 := same_upd (u := .lst []) hl0
  have hlen : (((ns.map V.int).length : Nat) : Int) = ns.length := by rw [List.length_map]
  have hj : (if (((ns.map V.int).length : Int) - 9) / 2 < 25 then (((ns.map V.int).length : Int) - 9) / 2 else 25) ≤ 25 := by split <;> omega
  have hj2 : -(2 ^ 62) ≤ (if (((ns.map V.int).length : Int) - 9) / 2 < 25 then (((ns.map V.int).length : Int) - 9) / 2 else 25) := by split <;> omega
  refine ⟨_, rfl, a, _, rfl, .inl (s0.seq hS), _, _, rfl, rfl, _, _, rfl, rfl, ⟨by decide, by decide⟩, _, _, rfl, _, rfl, hj2, by omega, ?_⟩
  refine for_range (lo := 0) (fun i σ H' => ∃ (p : Addr) (ps : List AO) (v4 v5 v6 v7 : Option V), σ = [some (.ref a), some (.str sd), some (.int b), some (.ref p), v4, v5, v6, v7] ∧ Same H H' ∧ H' p = some (.lst (ps.map rf)) ∧ Ords H' ps ∧ (∀ x ∈ ps, x.2.s = sd ∧ Szd x.2.l x.2.sh x.2.pk) ∧ ps.length ≤ i ∧ (ps.map fun x => x.2.n).Nodup ∧ (∀ x ∈ ps, ∃ j, j < i ∧ Tell (cell ns 4) x.2.n j) ∧ Srt sd ps)
    ⟨l0, [], _, _, _, _, rfl, s0, upd_same, fun _ z => (by cases z), fun _ z => (by cases z), Nat.le_refl _, List.nodup_nil, fun _ z => (by cases z), List.Pairwise.nil⟩ (fun i σ H' hi z => ?_) (fun σ H' z => ?_)
  · obtain ⟨p, ps, v4, v5, v6, v7, rfl, sm, hp, hO, hA, hc, hnd, htl, hsr⟩ := z
    have hi' : i < 25 := by omega
    have hS1 := sm.seq hS
    refine ⟨_, rfl, _, rfl, _, _, rfl, rfl, .inl ⟨by decide, by decide⟩, _, _, rfl, rfl, a, ns, _, rfl, hS1, by omega, ?_⟩
    refine ⟨_, rfl, _, _, rfl, rfl, (by walk_at "side"), _, rfl, a, ns, _, rfl, hS1, by decide, _, _, rfl, by omega, by omega, fun wz H2 s2 hwz _ => ?_⟩
    have sm2 := sm.trans s2
    refine ⟨_, rfl, _, rfl, a, ns, _, rfl, sm2.seq hS, by decide, _, _, rfl, by omega, by omega, fun nz H3 s3 hnz htn => ?_⟩
    have sm3 := sm2.trans s3
    refine ⟨_, rfl, _, rfl, _, rfl, _, _, rfl, rfl, ⟨by decide, by decide⟩, _, rfl, _, _, rfl, fun pr hp1 hp2 => ⟨by walk_at "sz", fun h0 hh0 => ?_⟩⟩
    have sm4 := same_upd' (u := .tup [V.str nz, V.str wz, V.str sd, V.int pr]) sm3 hh0
    refine ⟨_, rfl, _, rfl, _, rfl, _, rfl, _, _, rfl, rfl, .inl ⟨by decide, by decide⟩, _, _, rfl, rfl, a, ns, _, rfl, sm4.seq hS, by omega, _, rfl, fun H5 t1 l sh pk s5 ht1 hsz => ?_⟩
    refine ⟨h0, t1, _, _, rfl, rfl, .inl (.inl (s5 _ _ upd_same)), .inl (.inl ht1), (by intro z; cases z), by walk_at "sz", (by intro z; cases z), fun _ t2 ht2 => ?_⟩
    have sX := ((s2.trans s3).trans (same_upd (u := .tup [V.str nz, V.str wz, V.str sd, V.int pr]) hh0)).trans (s5.trans (same_upd (u := .tup ([V.str nz, V.str wz, V.str sd, V.int pr] ++ [V.int l, V.int sh, V.int pk])) ht2))
    refine ⟨p, ps, t2, ⟨nz, wz, sd, pr, l, sh, pk⟩, rfl, .inl (.inl (sX _ _ hp)), hO.same sX, upd_same, by omega, fun H7 l7 s7 hl7 => ?_⟩
    refine ⟨l7, ins (t2, ⟨nz, wz, sd, pr, l, sh, pk⟩) ps, _, _, _, _, rfl, (sm.trans sX).trans s7, hl7, ?_, ?_, by rw [ins_len]; omega, ins_nd hnd ?_, ?_, srt_ins (x := (t2, ⟨nz, wz, sd, pr, l, sh, pk⟩)) hsr⟩
    · intro y hy
      rcases mem_ins hy with rfl | hy
      · exact s7 _ _ upd_same
      · exact s7 _ _ (sX _ _ (hO y hy))
    · intro y hy
      rcases mem_ins hy with rfl | hy
      · exact ⟨rfl, hsz⟩
      · exact hA y hy
    · intro hm
      obtain ⟨y, hy, ey⟩ := List.mem_map.mp hm
      obtain ⟨j, hj, tj⟩ := htl y hy
      have htn' : Tell (cell ns 4) nz i := by
        have e : ((0 + (i : Int)) % 26).toNat = i := by omega
        rw [e] at htn
        exact htn
      exact tell_ne tj htn' (by omega) (by omega) (by omega) ey
    · intro y hy
      have htn' : Tell (cell ns 4) nz i := by
        have e : ((0 + (i : Int)) % 26).toNat = i := by omega
        rw [e] at htn
        exact htn
      rcases mem_ins hy with rfl | hy
      · exact ⟨i, by omega, htn'⟩
      · obtain ⟨j, hj, tj⟩ := htl y hy
        exact ⟨j, by omega, tj⟩
  · obtain ⟨p, ps, v4, v5, v6, v7, rfl, sm, hp, hO, hA, hc, hnd, htl, hsr⟩ := z
    exact ⟨_, rfl, q _ p ps sm hp hO hA (by omega) hnd hsr⟩
theorem sc__law_leap : FnScope ["cell"] ["cell"] (defScope (top 39)) := ⟨rfl, rfl, rfl, by decide +kernel, rfl, by decide +kernel, by decide +kernel⟩
def sp__law_leap (K : PySem.W.Frag) : Sp := fun vs H Q _ => ∃ (c : Int), vs = [.int c] ∧ ∀ (i : Int) (H' : Hp), Same H H' → 0 ≤ i → Q (.int i) H'
theorem ok__law_leap (d__law_leap : Dv K mg "_law_leap" (top 39) ["cell"]) (B : Bl mg) (C : Co mg) (R : Er K mg)  : FnOk P w K mg base CX0 1 d__law_leap.f d__law_leap.fd ["cell"] (sp__law_leap K) := by
  refine d__law_leap.F.ok sc__law_leap (fun vs H Q E h => ?_) (fun cdv A outer s H vs Q E hr h => ?_)
  · obtain ⟨_, rfl, _⟩ := h; rfl
  obtain ⟨c, rfl, q⟩ := h
  refine ⟨_, (pss_one (ps_ret (pe_ix ix_list (pe_lst (pa_cons (pe_op op_mod (pe_op op_fdiv (pv 0) pe_int) pe_int) (pa_cons (pe_op op_mod (pe_op op_fdiv (pv 0) pe_int) pe_int) (pa_cons (pe_op op_mod (pe_op op_fdiv (pv 0) pe_int) (pe_op op_pow pe_int pe_int)) (pa_cons (pe_op op_pow pe_int pe_int) pa_nil))))) (pe_op op_mod (pv 0) pe_int) (fun _ _ => rfl)))), ?_⟩
  refine ⟨_, rfl, _, _, rfl, rfl, ⟨by decide, by decide⟩, _, _, rfl, rfl, (by walk_at "side"), _, rfl, _, _, rfl, rfl, ⟨by decide, by decide⟩, _, _, rfl, rfl, (by walk_at "side"), _, rfl, _, _, rfl, rfl, ⟨by decide, by decide⟩, _, _, rfl, rfl, ⟨by decide, by decide, by decide⟩, _, _, rfl, rfl, (by show (0 : Int) < _; decide), _, _, rfl, rfl, ⟨by decide, by decide, by decide⟩, by walk_at "sz", fun l0 hl0 => ?_⟩
  obtain ⟨w, aw, hw⟩ : ∃ w : Int, atI [V.int (c / 4 % 4), V.int (c / 4 % 9), V.int (c / 4 % 10 ^ (60 : Int).toNat), V.int (10 ^ (9 : Int).toNat)] (c % 4) = some (.int w) ∧ 0 ≤ w := by
    have : c % 4 = 0 ∨ c % 4 = 1 ∨ c % 4 = 2 ∨ c % 4 = 3 := by omega
    rcases this with e | e | e | e
    · exact ⟨_, by rw [e]; rfl, by omega⟩
    · exact ⟨_, by rw [e]; rfl, by omega⟩
    · exact ⟨c / 4 % 10 ^ (60 : Int).toNat, by rw [e]; rfl, Int.emod_nonneg _ (by decide)⟩
    · exact ⟨_, by rw [e]; rfl, by decide⟩
  exact ⟨_, rfl, _, _, rfl, rfl, (by walk_at "side"), l0, _, _, _, rfl, rfl, .inl (.inl upd_same), aw, q _ _ (same_upd hl0) hw⟩
theorem sc__law_plain : FnScope ["found", "due"] ["found", "due"] (defScope (top 40)) := ⟨rfl, rfl, rfl, by decide +kernel, rfl, by decide +kernel, by decide +kernel⟩
def sp__law_plain (K : PySem.W.Frag) : Sp := fun vs H Q _ => ∃ (x : V), vs = [x, x] ∧ plainV x = true ∧ Q (.bl true) H
theorem ok__law_plain (d__law_plain : Dv K mg "_law_plain" (top 40) ["found", "due"]) (B : Bl mg) (C : Co mg) (R : Er K mg)  : FnOk P w K mg base CX0 1 d__law_plain.f d__law_plain.fd ["found", "due"] (sp__law_plain K) := by
  refine d__law_plain.F.ok sc__law_plain (fun vs H Q E h => ?_) (fun cdv A outer s H vs Q E hr h => ?_)
  · obtain ⟨_, rfl, _⟩ := h; rfl
  obtain ⟨x, rfl, hx, q⟩ := h
  refine ⟨_, (pss_cons (ps_if (pt_val (pe_callB call_isinst rfl B.b_isinstance PyProof.Rows.boot_isinstance (pa_cons (pv 1) (pa_cons (pe_bltn (v := .ty "str") rfl B.b_str PyProof.Rows.boot_str rfl) pa_nil))) (fun _ => rfl)) (pss_one (ps_ret (pe_and (pe_callB call_isinst rfl B.b_isinstance PyProof.Rows.boot_isinstance (pa_cons (pv 0) (pa_cons (pe_bltn (v := .ty "str") rfl B.b_str PyProof.Rows.boot_str rfl) pa_nil))) (pe_one (pe_cmpR op_eq (pv 0) (pv 1) (nomark _)))))) pss_nil) (pss_one (ps_ret (pe_and (pe_callB call_isinst rfl B.b_isinstance PyProof.Rows.boot_isinstance (pa_cons (pv 0) (pa_cons (pe_bltn (v := .ty "int") rfl B.b_int PyProof.Rows.boot_int rfl) pa_nil))) (pe_and (pe_not (pe_callB call_isinst rfl B.b_isinstance PyProof.Rows.boot_isinstance (pa_cons (pv 0) (pa_cons (pe_bltn (v := .ty "bool") rfl B.b_bool PyProof.Rows.boot_bool rfl) pa_nil)))) (pe_one (pe_cmpR op_eq (pv 0) (pv 1) (nomark _)))))))), ?_⟩
  cases x with
  | str z =>
    refine ⟨_, rfl, _, _, _, _, true, rfl, .str z, rfl, rfl, true, rfl, iteT ?_⟩
    refine ⟨_, rfl, _, _, _, _, true, rfl, .str z, rfl, rfl, true, rfl, iteT ⟨_, rfl, _, rfl, rfl, ?_⟩⟩
    simpa using q
  | int i =>
    refine ⟨_, rfl, _, _, _, _, false, rfl, .int i, rfl, rfl, false, rfl, iteF ?_⟩
    refine ⟨_, rfl, _, _, _, _, true, rfl, .int i, rfl, rfl, true, rfl, iteT ?_⟩
    refine ⟨_, rfl, _, _, _, _, false, rfl, .int i, rfl, rfl, false, rfl, _, rfl, iteT ⟨_, rfl, _, rfl, rfl, ?_⟩⟩
    simpa using q
  | _ => exact absurd (show false = true from hx) Bool.false_ne_true
theorem sc__law_row : FnScope ["found", "due", "k"] ["found", "due"] (defScope (top 41)) := ⟨rfl, rfl, rfl, by decide +kernel, rfl, by decide +kernel, by decide +kernel⟩
def sp__law_row (K : PySem.W.Frag) : Sp := fun vs H Q _ => ∃ (f d : Addr) (xs : List V), vs = [.ref f, .ref d] ∧ H f = some (.tup xs) ∧ H d = some (.tup xs) ∧ xs.all plainV = true ∧ xs.length ≤ 100 ∧ Q (.bl true) H
theorem ok__law_row (d__law_row : Dv K mg "_law_row" (top 41) ["found", "due"]) (B : Bl mg) (C : Co mg) (R : Er K mg) (d__law_plain : Dv K mg "_law_plain" (top 40) ["found", "due"]) (G__law_plain : FnOk P w K mg base CX0 1 d__law_plain.f d__law_plain.fd ["found", "due"] (sp__law_plain K)) : FnOk P w K mg base CX0 2 d__law_row.f d__law_row.fd ["found", "due"] (sp__law_row K) := by
  refine d__law_row.F.ok sc__law_row (fun vs H Q E h => ?_) (fun cdv A outer s H vs Q E hr h => ?_)
  · obtain ⟨_, _, _, rfl, _⟩ := h; rfl
  obtain ⟨f, d, xs, rfl, hf, hd, hp, hl, q⟩ := h
  refine ⟨_, (pss_cons (ps_if (PW.pt (pw_or (pt_not (pt_val (pe_callB call_isinst rfl B.b_isinstance PyProof.Rows.boot_isinstance (pa_cons (pv 0) (pa_cons (pe_bltn (v := .ty "tuple") rfl B.b_tuple PyProof.Rows.boot_tuple rfl) pa_nil))) (fun _ => rfl))) (pw_or1 (pt_cmpR op_ne (pe_callB call_len_seq rfl B.b_len PySem.boot_len (pa_cons (pv 0) pa_nil)) (pe_callB call_len_seq rfl B.b_len PySem.boot_len (pa_cons (pv 1) pa_nil)) (nomark _))))) (pss_one (ps_ret pe_bl)) pss_nil) (pss_cons (ps_for PassesOwn.never rfl (pi_range1 rfl B.b_range (pa_cons (pe_callB call_len_seq rfl B.b_len PySem.boot_len (pa_cons (pv 1) pa_nil)) pa_nil)) (pg_name (i := 2) sc__law_row.nd rfl (Or.inl rfl)) (pss_one (ps_if (pt_not (pt_val (pe_call G__law_plain (hr.mono (by decide)) rfl d__law_plain.m d__law_plain.F.kp d__law_plain.b .nil pass0 (pa_cons (pe_ix ix_tup (pv 0) (pv 2) (fun _ _ => rfl)) (pa_cons (pe_ix ix_tup (pv 1) (pv 2) (fun _ _ => rfl)) pa_nil))) (fun _ => rfl))) (pss_one (ps_ret pe_bl)) pss_nil))) (pss_one (ps_ret pe_bl)))), ?_⟩
  refine ⟨_, rfl, _, _, _, _, true, rfl, .tup hf, rfl, rfl, _, rfl, iteF ?_⟩
  refine ⟨_, rfl, f, _, rfl, .inr (.inl (.inl hf)), _, rfl, d, _, rfl, .inr (.inl (.inl hd)), rfl, _, rfl, iteNS rfl ?_⟩
  refine ⟨_, rfl, d, _, rfl, .inr (.inl (.inl hd)), _, rfl, by omega, by omega, ?_⟩
  refine for_range (lo := 0) (fun _ σ H' => H = H' ∧ ∃ v2, σ = [some (.ref f), some (.ref d), v2]) ⟨rfl, none, rfl⟩ (fun i σ H' hi z => ?_) (fun σ H' z => ?_)
  · obtain ⟨rfl, v2, rfl⟩ := z
    have hi' : i < xs.length := by omega
    have ax : atI xs (0 + (i : Int)) = some xs[i] := by rw [Int.zero_add]; exact atI_nat (List.getElem?_eq_getElem hi')
    exact ⟨_, rfl, _, rfl, f, _, _, _, rfl, rfl, .inl (.inl hf), ax, _, rfl, _, rfl, d, _, _, _, rfl, rfl, .inl (.inl hd), ax, xs[i], rfl, List.all_eq_true.mp hp _ (List.getElem_mem hi'), _, rfl, iteF ⟨rfl, _, rfl⟩⟩
  · obtain ⟨rfl, v2, rfl⟩ := z
    exact q
theorem sc__law_step_right : FnScope ["order", "one", "step", "reach"] ["order", "one", "step", "reach"] (defScope (top 43)) := ⟨rfl, rfl, rfl, by decide +kernel, rfl, by decide +kernel, by decide +kernel⟩
def sp__law_step_right (K : PySem.W.Frag) : Sp := fun vs H Q _ => ∃ (t : Addr) (o : Od) (f : Addr) (x : Od) (st : Addr) (sv : List V) (rt : Addr) (last leap : Int), vs = [.ref t, .ref f, .ref st, .ref rt] ∧ H t = some (.tup (odV o)) ∧ H f = some (.tup (odV x)) ∧ H st = some (.tup sv) ∧ H rt = some (.tup [.int last, .int leap]) ∧ aheadB o.s x.pr o.pr = false ∧
  ((sv = [.str "shun", .str x.n, .int x.l] ∧ x.w = o.w) ∨ (∃ amt, sv = [.str "trade", .str x.n, .int x.pr, .int amt] ∧ 1 ≤ amt ∧ ¬ x.w = o.w ∧ ¬ leap < absI (x.pr - last))) ∧ ∀ H', Same H H' → Q (.bl true) H'
theorem ok__law_step_right (d__law_step_right : Dv K mg "_law_step_right" (top 43) ["order", "one", "step", "reach"]) (B : Bl mg) (C : Co mg) (R : Er K mg) (d__law_allows : Dv K mg "_law_allows" (top 34) ["side", "limit", "price"]) (G__law_allows : FnOk P w K mg base CX0 1 d__law_allows.f d__law_allows.fd ["side", "limit", "price"] (sp__law_allows K)) (d__law_row : Dv K mg "_law_row" (top 41) ["found", "due"]) (G__law_row : FnOk P w K mg base CX0 2 d__law_row.f d__law_row.fd ["found", "due"] (sp__law_row K)) : FnOk P w K mg base CX0 3 d__law_step_right.f d__law_step_right.fd ["order", "one", "step", "reach"] (sp__law_step_right K) := by
  refine d__law_step_right.F.ok sc__law_step_right (fun vs H Q E h => ?_) (fun cdv A outer s H vs Q E hr h => ?_)
  · obtain ⟨_, _, _, _, _, _, _, _, _, rfl, _⟩ := h; rfl
  obtain ⟨t, o, f, x, st, sv, rt, last, leap, rfl, ht, hf, hst, hr1, hal, hc, q⟩ := h
  refine ⟨_, (pss_cons (ps_if (pt_not (pt_val (pe_call G__law_allows (hr.mono (by decide)) rfl d__law_allows.m d__law_allows.F.kp d__law_allows.b .nil pass0 (pa_cons (pe_ix ix_tup (pv 0) pe_int (fun _ _ => rfl)) (pa_cons (pe_ix ix_tup (pv 0) pe_int (fun _ _ => rfl)) (pa_cons (pe_ix ix_tup (pv 1) pe_int (fun _ _ => rfl)) pa_nil)))) (fun _ => rfl))) (pss_one (ps_ret pe_bl)) pss_nil) (pss_cons (ps_if (pt_cmpR op_eq (pe_ix ix_tup (pv 1) pe_int (fun _ _ => rfl)) (pe_ix ix_tup (pv 0) pe_int (fun _ _ => rfl)) (nomark _)) (pss_one (ps_ret (pe_call G__law_row (hr.mono (by decide)) rfl d__law_row.m d__law_row.F.kp d__law_row.b .nil pass0 (pa_cons (pv 2) (pa_cons (pe_tup (pa_cons pe_str (pa_cons (pe_ix ix_tup (pv 1) pe_int (fun _ _ => rfl)) (pa_cons (pe_ix ix_tup (pv 1) pe_int (fun _ _ => rfl)) pa_nil)))) pa_nil))))) pss_nil) (pss_cons (ps_if (PW.pt (pw_or (pt_not (pt_val (pe_callB call_isinst rfl B.b_isinstance PyProof.Rows.boot_isinstance (pa_cons (pv 2) (pa_cons (pe_bltn (v := .ty "tuple") rfl B.b_tuple PyProof.Rows.boot_tuple rfl) pa_nil))) (fun _ => rfl))) (pw_or (pt_cmpR op_ne (pe_callB call_len_seq rfl B.b_len PySem.boot_len (pa_cons (pv 2) pa_nil)) pe_int (nomark _)) (pw_or1 (pt_not (pt_val (pe_call G__law_row (hr.mono (by decide)) rfl d__law_row.m d__law_row.F.kp d__law_row.b .nil pass0 (pa_cons (pe_slice sl_tup (pv 2) po_none (po_some pe_int)) (pa_cons (pe_tup (pa_cons pe_str (pa_cons (pe_ix ix_tup (pv 1) pe_int (fun _ _ => rfl)) (pa_cons (pe_ix ix_tup (pv 1) pe_int (fun _ _ => rfl)) pa_nil)))) pa_nil))) (fun _ => rfl))))))) (pss_one (ps_ret pe_bl)) pss_nil) (pss_cons (ps_if (PW.pt (pw_or (pt_not (pt_val (pe_callB call_isinst rfl B.b_isinstance PyProof.Rows.boot_isinstance (pa_cons (pe_ix ix_tup (pv 2) pe_int (fun _ _ => rfl)) (pa_cons (pe_bltn (v := .ty "int") rfl B.b_int PyProof.Rows.boot_int rfl) pa_nil))) (fun _ => rfl))) (pw_or (pt_val (pe_callB call_isinst rfl B.b_isinstance PyProof.Rows.boot_isinstance (pa_cons (pe_ix ix_tup (pv 2) pe_int (fun _ _ => rfl)) (pa_cons (pe_bltn (v := .ty "bool") rfl B.b_bool PyProof.Rows.boot_bool rfl) pa_nil))) (fun _ => rfl)) (pw_or1 (pt_cmpR op_lt (pe_ix ix_tup (pv 2) pe_int (fun _ _ => rfl)) pe_int (nomark _)))))) (pss_one (ps_ret pe_bl)) pss_nil) (pss_one (ps_ret (pe_and (pe_cmpR op_le (pe_op op_sub (pe_ix ix_tup (pv 3) pe_int (fun _ _ => rfl)) (pe_ix ix_tup (pv 3) pe_int (fun _ _ => rfl))) (pe_ix ix_tup (pv 1) pe_int (fun _ _ => rfl)) (nomark _)) (pe_one (pe_cmpR op_le (pe_ix ix_tup (pv 1) pe_int (fun _ _ => rfl)) (pe_op op_add (pe_ix ix_tup (pv 3) pe_int (fun _ _ => rfl)) (pe_ix ix_tup (pv 3) pe_int (fun _ _ => rfl))) (nomark _)))))))))), ?_⟩
  refine ⟨_, rfl, t, _, _, _, rfl, rfl, .inl (.inl ht), rfl, _, rfl, t, _, _, _, rfl, rfl, .inl (.inl ht), rfl, _, rfl, f, _, _, _, rfl, rfl, .inl (.inl hf), rfl, _, _, _, rfl, _, rfl, ite2 (fun z => absurd z (by rw [hal]; decide)) (fun _ => ?_)⟩
  refine ⟨_, rfl, f, _, _, _, rfl, rfl, .inl (.inl hf), rfl, _, rfl, t, _, _, _, rfl, rfl, .inl (.inl ht), rfl, rfl, _, rfl, ?_⟩
  rcases hc with ⟨rfl, hw⟩ | ⟨amt, rfl, ha, hw, hn⟩
  · refine ite2 (fun _ => ?_) (fun z => absurd (decide_eq_true (congrArg V.str hw)) z)
    exact ⟨_, rfl, _, rfl, f, _, _, _, rfl, rfl, .inl (.inl hf), rfl, _, rfl, f, _, _, _, rfl, rfl, .inl (.inl hf), rfl, by walk_at "sz", fun d hd => ⟨st, d, _, rfl, at_upd hst hd, upd_same, rfl, by show 3 ≤ 100; decide, q _ (same_upd hd)⟩⟩
  refine ite2 (fun z => absurd (V.str.inj (of_decide_eq_true z)) hw) (fun _ => ?_)
  refine ⟨_, rfl, _, _, _, _, true, rfl, .tup hst, rfl, rfl, _, rfl, iteF ?_⟩
  refine ⟨_, rfl, st, _, rfl, .inr (.inl (.inl hst)), rfl, _, rfl, iteF ?_⟩
  refine ⟨_, rfl, _, rfl, st, _, rfl, .inl (.inl hst), (by show ¬ (HT.sIx 4 0 none = 0 ∧ HT.sIx 4 4 (some 3) = 4); decide), fun q1 hq1 => ?_⟩
  have s1 := same_upd (u := .tup [V.str "trade", V.str x.n, V.int x.pr]) hq1
  have hf1 := s1 _ _ hf
  refine ⟨_, rfl, f, _, _, _, rfl, rfl, .inl (.inl hf1), rfl, _, rfl, f, _, _, _, rfl, rfl, .inl (.inl hf1), rfl, by walk_at "sz", fun q2 hq2 => ?_⟩
  have s2 := same_upd' (u := .tup [V.str "trade", V.str x.n, V.int x.pr]) s1 hq2
  refine ⟨q1, q2, [V.str "trade", V.str x.n, V.int x.pr], rfl, at_upd upd_same hq2, upd_same, rfl, by show 3 ≤ 100; decide, _, rfl, iteF ?_⟩
  have hst := s2 _ _ hst
  have hf := s2 _ _ hf
  have hr1 := s2 _ _ hr1
  refine ⟨_, rfl, st, _, _, _, rfl, rfl, .inl (.inl hst), rfl, _, _, _, _, true, rfl, .int _, rfl, rfl, _, rfl, iteF ?_⟩
  refine ⟨_, rfl, st, _, _, _, rfl, rfl, .inl (.inl hst), rfl, _, _, _, _, false, rfl, .int _, rfl, rfl, _, rfl, iteF ?_⟩
  refine ⟨_, rfl, st, _, _, _, rfl, rfl, .inl (.inl hst), rfl, _, _, rfl, rfl, _, rfl, ite2 (fun z => absurd (of_decide_eq_true z) (by omega)) (fun _ => ?_)⟩
  have n1 : last - leap ≤ x.pr := by unfold absI at hn; omega
  have n2 : x.pr ≤ last + leap := by unfold absI at hn; omega
  refine ⟨_, rfl, rt, _, _, _, rfl, rfl, .inl (.inl hr1), rfl, _, rfl, rt, _, _, _, rfl, rfl, .inl (.inl hr1), rfl, _, _, rfl, rfl, _, rfl, f, _, _, _, rfl, rfl, .inl (.inl hf), rfl, _, _, rfl, rfl, _, rfl, ite2 (fun _ => ?_) (fun z => absurd (decide_eq_true n1) z)⟩
  exact ⟨_, rfl, f, _, _, _, rfl, rfl, .inl (.inl hf), rfl, _, rfl, rt, _, _, _, rfl, rfl, .inl (.inl hr1), rfl, _, rfl, rt, _, _, _, rfl, rfl, .inl (.inl hr1), rfl, _, _, rfl, rfl, _, _, rfl, rfl, q_true n2 (q _ s2)⟩
theorem sc__law_went : FnScope ["order", "line", "steps", "reach", "went", "places", "at", "one", "step"] ["order", "line", "steps", "reach"] (defScope (top 44)) := ⟨rfl, rfl, rfl, by decide +kernel, rfl, by decide +kernel, by decide +kernel⟩
def sp__law_went (K : PySem.W.Frag) : Sp := fun vs H Q _ => ∃ (t : Addr) (o : Od) (p : Addr) (ps : List AO) (S : Addr) (ss : List (Addr × List V)) (rt : Addr) (last leap : Int) (osF : List Od) (lfF : Int) (hb : Bool), vs = [.ref t, .ref p, .ref S, .ref rt] ∧ H t = some (.tup (odV o)) ∧ H p = some (.lst (ps.map rf)) ∧ Ords H ps ∧ H S = some (.lst (ss.map sr)) ∧ Rws H ss ∧ H rt = some (.tup [.int last, .int leap]) ∧
  Met o last leap o.l (ps.map (·.2)) (ss.map (·.2)) osF lfF hb ∧ (ps.map fun x => x.2.n).Nodup ∧ (∀ x ∈ ps.map (·.2), OkO x) ∧ 0 ≤ o.l ∧ ps.length ≤ 900 ∧
  ∀ (H' : Hp) (Wa : Addr) (W : List Int) (gs : List (Nat × Od)), Same H H' → H' Wa = some (.lst (W.map V.int)) → GJ o (ps.map (·.2)) W lfF gs → gs.map (·.2) = osF → Q (.ref Wa) H'
theorem ok__law_went (d__law_went : Dv K mg "_law_went" (top 44) ["order", "line", "steps", "reach"]) (B : Bl mg) (C : Co mg) (R : Er K mg) (d__law_step_right : Dv K mg "_law_step_right" (top 43) ["order", "one", "step", "reach"]) (G__law_step_right : FnOk P w K mg base CX0 3 d__law_step_right.f d__law_step_right.fd ["order", "one", "step", "reach"] (sp__law_step_right K)) : FnOk P w K mg base CX0 4 d__law_went.f d__law_went.fd ["order", "line", "steps", "reach"] (sp__law_went K) := by
  refine d__law_went.F.ok sc__law_went (fun vs H Q E h => ?_) (fun cdv A outer s H vs Q E hr h => ?_)
  · obtain ⟨_, _, _, _, _, _, _, _, _, _, _, _, rfl, _⟩ := h; rfl
  obtain ⟨t, o, p, ps, S, ss, rt, last, leap, osF, lfF, hb, rfl, ht, hp, hO, hSS, hR, hrt, m0, hnd, hok, ho0, hl, q⟩ := h
  refine ⟨_, (pss_cons (ps_lcT (i := 4) sc__law_went.nd rfl rfl (N := ["order", "line", "steps", "reach", "went", "places", "at", "one", "step"]) (M := ["order", "line", "steps", "reach", "went", "places", "at", "-one", "step"]) (sc := defScope (top 44)) (ts := ["one"]) ⟨by decide +kernel, rfl, by decide +kernel, by decide +kernel, by decide +kernel, rfl, by decide +kernel⟩ rfl rfl rfl (pi_list (pv 1)) (fun L_ _ _ _ _ _ => L_.nm rfl 0 rfl rfl _ _ _ _ _) (fun _ _ _ _ _ => pif_nil) (fun _ _ _ _ _ => pe_int)) (pss_cons (ps_set (i := 5) sc__law_went.nd rfl (Or.inl rfl) pe_dnewK) (pss_cons (ps_for PassesOwn.never rfl (pi_enum rfl B.b_enumerate (pv 1)) (pg_tup rfl (pgs_cons (pg_name (i := 6) sc__law_went.nd rfl (Or.inl rfl)) (pgs_cons (pg_name (i := 7) sc__law_went.nd rfl (Or.inl rfl)) pgs_nil))) (pss_one (ps_dput (hu1 hr.units) (pv 5) (pe_ix ix_tup (pv 7) pe_int (fun _ _ => rfl)) (pv 6) rfl))) (pss_cons (ps_for PassesOwn.never rfl (pi_list (pv 2)) (pg_name (i := 8) sc__law_went.nd rfl (Or.inl rfl)) (pss_cons (ps_if (PW.pt (pw_or (pt_not (pt_val (pe_callB call_isinst rfl B.b_isinstance PyProof.Rows.boot_isinstance (pa_cons (pv 8) (pa_cons (pe_bltn (v := .ty "tuple") rfl B.b_tuple PyProof.Rows.boot_tuple rfl) pa_nil))) (fun _ => rfl))) (pw_or (pt_cmpR op_lt (pe_callB call_len_seq rfl B.b_len PySem.boot_len (pa_cons (pv 8) pa_nil)) pe_int (nomark _)) (pw_or1 (pt_not (pt_val (pe_callB call_isinst rfl B.b_isinstance PyProof.Rows.boot_isinstance (pa_cons (pe_ix ix_tup (pv 8) pe_int (fun _ _ => rfl)) (pa_cons (pe_bltn (v := .ty "str") rfl B.b_str PyProof.Rows.boot_str rfl) pa_nil))) (fun _ => rfl))))))) (pss_one (ps_ret pe_non)) pss_nil) (pss_cons (ps_set (i := 6) sc__law_went.nd rfl (Or.inl rfl) (pe_dget2 (hu1 hr.units) (pv 5) (pe_ix ix_tup (pv 8) pe_int (fun _ _ => rfl)) (pe_un un_neg pe_int) ⟨rfl, rfl, rfl, rfl⟩)) (pss_cons (ps_if (PW.pt (pw_or (pt_cmpR op_lt (pv 6) pe_int (nomark _)) (pw_or1 (pt_not (pt_val (pe_call G__law_step_right (hr.mono (by decide)) rfl d__law_step_right.m d__law_step_right.F.kp d__law_step_right.b .nil pass0 (pa_cons (pv 0) (pa_cons (pe_ix ix_list (pv 1) (pv 6) (fun _ _ => rfl)) (pa_cons (pv 8) (pa_cons (pv 3) pa_nil))))) (fun _ => rfl)))))) (pss_one (ps_ret pe_non)) pss_nil) (pss_one (ps_asg (pe_op op_add (pe_ix ix_list (pv 4) (pv 6) (fun _ _ => rfl)) (pe_ix ix_tup (pv 8) (pe_un un_neg pe_int) (fun _ _ => rfl))) (pg_sub (pv 4) (pv 6) set_list))))))) (pss_one (ps_ret (pv 4))))))), ?_⟩
  refine ⟨_, rfl, p, rfl, ⟨_, .inl (.inl hp)⟩, ?_⟩
  refine comp_all (ps := ps) (r := rf) (fun _ => .int 0) (.inl (.inl hp)) (szOk (by omega)) (fun x H'' hx s2 R hR => ⟨rfl, hR _ (Same.refl _)⟩) (fun H1 s1 Wa hWa => ?_)
  have uW := same_upd' (u := .lst (ps.map fun _ => V.int 0)) s1 hWa
  have kW := upd_same (H := H1) (a := Wa) (o := .lst (ps.map fun _ => V.int 0))
  have fW : H Wa = none := s1.free hWa
  generalize upd H1 Wa (.lst (ps.map fun _ => V.int 0)) = H2 at uW kW
  have rep : (ps.map fun _ => V.int 0) = (List.replicate (ps.map (·.2)).length (0 : Int)).map V.int := by
    rw [List.map_replicate, List.length_map]
    exact List.map_const' ..
  rw [rep] at kW
  refine fun D fD => ?_
  have sB := same_upd (u := .dK []) fD
  have fD0 : H D = none := uW.free fD
  have nDW : D ≠ Wa := fun z => ne_of_none kW fD z.symm
  refine ⟨_, rfl, p, rfl, ⟨_, .inl (.inl (sB _ _ (uW _ _ hp)))⟩, ?_⟩
  refine for_enum (K := K) (a := p) (xs := ps.map rf) (fun i σ H' => ∃ (kvs : List (Key × V)) (v6 v7 : Option V), Same H H' ∧ H' Wa = some (.lst ((List.replicate (ps.map (·.2)).length (0 : Int)).map V.int)) ∧ H' D = some (.dK kvs) ∧ kvs.length ≤ i ∧ (∀ (k : Nat) (y : AO), k < i → ps[k]? = some y → valV kvs (Sum.inr y.2.n) = some (.int k)) ∧ σ = [some (.ref t), some (.ref p), some (.ref S), some (.ref rt), some (.ref Wa), some (.ref D), v6, v7, none]) ⟨[], none, none, uW.trans sB, sB _ _ kW, upd_same, Nat.le_refl _, fun k _ z => absurd z (Nat.not_lt_zero _), rfl⟩ (fun i σ H' _ z => ?_) (fun i x σ H' tt hx z htt => ?_) (fun σ H' z => ?_)
  · obtain ⟨_, _, _, sm, _⟩ := z
    exact .inl (.inl (sm _ _ hp))
  · obtain ⟨kvs, v6, v7, sm, kW, hD, hkl, hkv, rfl⟩ := z
    obtain ⟨y, rfl, hy, hym⟩ := get_rf hx
    have hi : i < ps.length := (List.getElem?_eq_some_iff.mp hy).1
    have s1 := same_upd (u := .tup [V.int i, rf y]) htt
    refine ⟨tt, _, rfl, .inl (.inl upd_same), rfl, _, _, rfl, _, _, rfl, rfl, ?_⟩
    have hyo := (sm.trans s1) _ _ (hO y hym)
    have hD1 := s1 _ _ hD
    refine ⟨_, rfl, _, rfl, _, rfl, y.1, _, _, _, rfl, rfl, .inl (.inl hyo), rfl, D, _, rfl, DPut.k (k := Sum.inr y.2.n) hD1 (szLt (by omega)), ?_⟩
    refine ⟨putK kvs (Sum.inr y.2.n) (.int i), _, _, same_updN (sm.trans s1) fD0, upd_oth (s1 _ _ kW) nDW.symm, upd_same, ?_, fun k w hk hw => ?_, rfl⟩
    · have := length_putK kvs (Sum.inr y.2.n) (.int i)
      omega
    · rw [valV_put]
      by_cases e : k = i
      · subst e
        have : w = y := Option.some.inj (hw.symm.trans hy)
        rw [this, if_pos rfl]
      · rw [if_neg (fun z => e (names_inj hnd hw hy (Sum.inr.inj z)))]
        exact hkv k w (by omega) hw
  obtain ⟨kvs, v6, v7, sm, kW, hD, hkl, hkv, rfl⟩ := z
  rw [List.length_map] at hkv
  have hkv : ∀ (k : Nat) (y : AO), ps[k]? = some y → valV kvs (Sum.inr y.2.n) = some (.int k) := fun k y h => hkv k y (List.getElem?_eq_some_iff.mp h).1 h
  have G0 := GJ.start (o := o) (os := ps.map (·.2)) ho0 hok
  refine ⟨_, rfl, S, rfl, ⟨_, .inl (.inl (sm _ _ hSS))⟩, ?_⟩
  refine for_list (K := K) (a := S) (xs := ss.map sr) (fun j σ H' => ∃ (WW : List Int) (lf2 : Int) (gs : List (Nat × Od)) (v6 v7 v8 : Option V), Same H H' ∧ H' D = some (.dK kvs) ∧ H' Wa = some (.lst (WW.map V.int)) ∧ GJ o (ps.map (·.2)) WW lf2 gs ∧ Met o last leap lf2 (gs.map (·.2)) ((ss.map (·.2)).drop j) osF lfF hb ∧ σ = [some (.ref t), some (.ref p), some (.ref S), some (.ref rt), some (.ref Wa), some (.ref D), v6, v7, v8])
    ⟨_, o.l, _, _, _, none, sm, hD, kW, G0, ?_, rfl⟩ (fun j σ H' _ z => ?_) (fun j x σ H' hx z => ?_) (fun σ H' z => ?_)
  · rw [List.drop_zero, show ((List.range (ps.map (·.2)).length).zip (ps.map (·.2))).map (·.2) = ps.map (·.2) from List.map_snd_zip (by rw [List.length_range]; exact Nat.le_refl _)]
    exact m0
  · obtain ⟨_, _, _, _, _, _, sm, _⟩ := z
    exact .inl (.inl (sm _ _ hSS))
  · obtain ⟨WW, lf2, gs, v6', v7', v8, sm, hD, hWa, G, m, rfl⟩ := z
    obtain ⟨s, rfl, hss, hsm⟩ : ∃ s, x = sr s ∧ ss[j]? = some s ∧ s ∈ ss := by
      rw [List.getElem?_map] at hx
      cases e : ss[j]? with
      | none => rw [e] at hx; cases hx
      | some s => rw [e] at hx; exact ⟨s, (Option.some.inj hx).symm, rfl, List.mem_of_getElem? e⟩
    have hj : j < ss.length := (List.getElem?_eq_some_iff.mp hss).1
    have hdr : (ss.map (·.2)).drop j = s.2 :: (ss.map (·.2)).drop (j + 1) := by
      rw [List.drop_eq_getElem_cons (by rw [List.length_map]; exact hj), List.getElem_map]
      rw [(List.getElem?_eq_some_iff.mp hss).2]
    rw [hdr] at m
    obtain ⟨i, y, amt, hy, hal, hsv, lf3, gs3, G3, m3⟩ := G.step m
    obtain ⟨yp, hyp, rfl, hym⟩ := od_get hy
    have hs := sm _ _ (hR s hsm)
    have hpX := sm _ _ hp
    have hyo := sm _ _ (hO yp hym)
    have hei : i < ps.length := (List.getElem?_eq_some_iff.mp hyp).1
    have lW : WW.length = ps.length := by rw [G.lw, List.length_map]
    have h1at : atI s.2 1 = some (.str yp.2.n) := by
      rcases hsv with ⟨e1, _⟩ | ⟨e1, _⟩ <;> (rw [e1]; rfl)
    have hl3 : ¬ ((s.2.length : Int) < 3) := by
      rcases hsv with ⟨e1, _⟩ | ⟨e1, _⟩ <;> (rw [e1]; simp)
    have hlast : atI s.2 (-1) = some (.int amt) := by
      rcases hsv with ⟨e1, e2, _⟩ | ⟨e1, _⟩
      · rw [e1, e2]; rfl
      · rw [e1]; rfl
    have hcond : (s.2 = [.str "shun", .str yp.2.n, .int yp.2.l] ∧ yp.2.w = o.w) ∨ (∃ amt, s.2 = [.str "trade", .str yp.2.n, .int yp.2.pr, .int amt] ∧ 1 ≤ amt ∧ ¬ yp.2.w = o.w ∧ ¬ leap < absI (yp.2.pr - last)) := by
      rcases hsv with ⟨e1, _, e3⟩ | ⟨e1, e2, e3, e4⟩
      · exact .inl ⟨e1, e3⟩
      · exact .inr ⟨amt, e1, e2, e3, e4⟩
    have dget := DGet.k (k := Sum.inr yp.2.n) hD
    rw [hkv i yp hyp] at dget
    refine ⟨_, rfl, _, _, _, _, true, rfl, .tup hs, rfl, rfl, _, rfl, iteF ?_⟩
    refine ⟨_, rfl, s.1, _, rfl, .inr (.inl (.inl hs)), _, _, rfl, rfl, _, rfl, ite2 (fun z => absurd (of_decide_eq_true z) hl3) (fun _ => ?_)⟩
    refine ⟨_, rfl, s.1, _, _, _, rfl, rfl, .inl (.inl hs), h1at, _, _, _, _, true, rfl, .str _, rfl, rfl, _, rfl, iteF ?_⟩
    refine ⟨_, rfl, D, rfl, .inl ⟨kvs, .inl hD⟩, _, rfl, s.1, _, _, _, rfl, rfl, .inl (.inl hs), h1at, _, rfl, some (.int i), dget, ?_⟩
    refine ⟨_, rfl, _, _, rfl, rfl, _, rfl, ite2 (fun z => absurd (of_decide_eq_true z) (by omega)) (fun _ => ?_)⟩
    refine ⟨_, rfl, _, rfl, _, rfl, p, _, _, _, rfl, rfl, .inl (.inl hpX), rf_at2 hyp, _, rfl, _, rfl, t, o, yp.1, yp.2, s.1, s.2, rt, last, leap, rfl, sm _ _ ht, hyo, hs, sm _ _ hrt, hal, hcond, fun H14 s14 => ⟨_, rfl, iteF ?_⟩⟩
    have hW14 := s14 _ _ hWa
    have hD14 := s14 _ _ hD
    have hs14 := s14 _ _ hs
    have sm14 := sm.trans s14
    refine ⟨_, rfl, _, rfl, Wa, _, _, _, rfl, rfl, .inl (.inl hW14), atI_nat (gi_get (by omega)), _, rfl, _, rfl, s.1, _, _, _, rfl, rfl, .inl (.inl hs14), hlast, _, _, rfl, rfl, _, rfl, _, rfl, Wa, _, _, i, rfl, rfl, hW14, ixN_nat (by rw [List.length_map]; omega), ?_⟩
    rw [set_ints]
    exact ⟨_, lf3, gs3, _, _, _, same_updN sm14 fW, upd_oth hD14 nDW, upd_same, G3, m3, rfl⟩
  obtain ⟨WW, lf2, gs, v6', v7', v8, sm, hD, hWa, G, m, rfl⟩ := z
  rw [List.length_map, List.drop_of_length_le (by rw [List.length_map]; exact Nat.le_refl _)] at m
  obtain ⟨e1, e2⟩ := m.nil_end
  rw [← e2] at G
  exact ⟨_, rfl, q _ Wa WW gs sm hWa G e1.symm⟩
theorem sc__law_stands : FnScope ["line", "went", "after", "left", "one", "at", "now"] ["line", "went", "after"] (defScope (top 45)) := ⟨rfl, rfl, rfl, by decide +kernel, rfl, by decide +kernel, by decide +kernel⟩
def sp__law_stands (K : PySem.W.Frag) : Sp := fun vs H Q _ => ∃ (p : Addr) (ps : List AO) (Wa : Addr) (W : List Int) (Bq : Addr) (qs : List AO) (o : Od) (lf : Int) (gs : List (Nat × Od)), vs = [.ref p, .ref Wa, .ref Bq] ∧ H p = some (.lst (ps.map rf)) ∧ Ords H ps ∧ H Wa = some (.lst (W.map V.int)) ∧ H Bq = some (.lst (qs.map rf)) ∧ Ords H qs ∧ GJ o (ps.map (·.2)) W lf gs ∧ gs.map (·.2) = qs.map (·.2) ∧ (ps.map fun x => x.2.n).Nodup ∧ ps.length ≤ 900 ∧ qs.length ≤ 900 ∧ ∀ H', Same H H' → Q (.bl true) H'
theorem ok__law_stands (d__law_stands : Dv K mg "_law_stands" (top 45) ["line", "went", "after"]) (B : Bl mg) (C : Co mg) (R : Er K mg) (d__law_row : Dv K mg "_law_row" (top 41) ["found", "due"]) (G__law_row : FnOk P w K mg base CX0 2 d__law_row.f d__law_row.fd ["found", "due"] (sp__law_row K)) : FnOk P w K mg base CX0 3 d__law_stands.f d__law_stands.fd ["line", "went", "after"] (sp__law_stands K) := by
  refine d__law_stands.F.ok sc__law_stands (fun vs H Q E h => ?_) (fun cdv A outer s H vs Q E hr h => ?_)
  · obtain ⟨_, _, _, _, _, _, _, _, _, rfl, _⟩ := h; rfl
  obtain ⟨p, ps, Wa, W, Bq, qs, o, lf, gs, rfl, hp, hO, hW, hB, hOq, G, hgq, hnd, hl, hql, q⟩ := h
  refine ⟨_, (pss_cons (ps_set (i := 3) sc__law_stands.nd rfl (Or.inl rfl) pe_dnewK) (pss_cons (ps_for PassesOwn.never rfl (pi_list (pv 2)) (pg_name (i := 4) sc__law_stands.nd rfl (Or.inl rfl)) (pss_cons (ps_if (PW.pt (pw_or (pt_not (pt_val (pe_callB call_isinst rfl B.b_isinstance PyProof.Rows.boot_isinstance (pa_cons (pv 4) (pa_cons (pe_bltn (v := .ty "tuple") rfl B.b_tuple PyProof.Rows.boot_tuple rfl) pa_nil))) (fun _ => rfl))) (pw_or (pt_cmpR op_ne (pe_callB call_len_seq rfl B.b_len PySem.boot_len (pa_cons (pv 4) pa_nil)) pe_int (nomark _)) (pw_or (pt_not (pt_val (pe_callB call_isinst rfl B.b_isinstance PyProof.Rows.boot_isinstance (pa_cons (pe_ix ix_tup (pv 4) pe_int (fun _ _ => rfl)) (pa_cons (pe_bltn (v := .ty "str") rfl B.b_str PyProof.Rows.boot_str rfl) pa_nil))) (fun _ => rfl))) (pw_or1 (pt_cmp (pc_din (hu1 hr.units) (pe_ix ix_tup (pv 4) pe_int (fun _ _ => rfl)) (pv 3)))))))) (pss_one (ps_ret pe_bl)) pss_nil) (pss_one (ps_dput (hu1 hr.units) (pv 3) (pe_ix ix_tup (pv 4) pe_int (fun _ _ => rfl)) (pv 4) rfl)))) (pss_cons (ps_for PassesOwn.never rfl (pi_enum rfl B.b_enumerate (pv 0)) (pg_tup rfl (pgs_cons (pg_name (i := 5) sc__law_stands.nd rfl (Or.inl rfl)) (pgs_cons (pg_name (i := 4) sc__law_stands.nd rfl (Or.inl rfl)) pgs_nil))) (pss_cons (ps_if (pt_cmpR op_gt (pe_ix ix_list (pv 1) (pv 5) (fun _ _ => rfl)) (pe_ix ix_tup (pv 4) pe_int (fun _ _ => rfl)) (nomark _)) (pss_one (ps_ret pe_bl)) pss_nil) (pss_one (ps_if (pt_cmpR op_lt (pe_ix ix_list (pv 1) (pv 5) (fun _ _ => rfl)) (pe_ix ix_tup (pv 4) pe_int (fun _ _ => rfl)) (nomark _)) (pss_cons (ps_if (pt_cmp (pc_dnotin (hu1 hr.units) (pe_ix ix_tup (pv 4) pe_int (fun _ _ => rfl)) (pv 3))) (pss_one (ps_ret pe_bl)) pss_nil) (pss_cons (ps_set (i := 6) sc__law_stands.nd rfl (Or.inl rfl) (pe_dpop1 (pv 3) (pe_ix ix_tup (pv 4) pe_int (fun _ _ => rfl)) ⟨rfl, rfl, rfl, rfl⟩)) (pss_one (ps_if (pt_not (pt_val (pe_call G__law_row (hr.mono (by decide)) rfl d__law_row.m d__law_row.F.kp d__law_row.b .nil pass0 (pa_cons (pe_op op_catT (pe_slice sl_tup (pv 6) po_none (po_some pe_int)) (pe_slice sl_tup (pv 6) (po_some pe_int) po_none)) (pa_cons (pe_op op_catT (pe_slice sl_tup (pv 4) po_none (po_some pe_int)) (pe_tup (pa_cons (pe_op op_sub (pe_ix ix_tup (pv 4) pe_int (fun _ _ => rfl)) (pe_ix ix_list (pv 1) (pv 5) (fun _ _ => rfl))) (pa_cons (pe_ix ix_tup (pv 4) pe_int (fun _ _ => rfl)) pa_nil)))) pa_nil))) (fun _ => rfl))) (pss_one (ps_ret pe_bl)) pss_nil)))) pss_nil)))) (pss_one (ps_ret (pe_cmpR op_eq (pe_callB call_lenD rfl B.b_len PySem.boot_len (pa_cons (pv 3) pa_nil)) pe_int (nomark _))))))), ?_⟩
  have hgl : gs.length = qs.length := by have := congrArg List.length hgq; simpa using this
  have hgn : gs.length ≤ 900 := by omega
  have zq : ∀ (m : Nat) (e : Nat × Od) (x : AO), gs[m]? = some e → qs[m]? = some x → e.2 = x.2 := fun m e x h1 h2 => by
    have := congrArg (fun l => l[m]?) hgq
    simp only [List.getElem?_map, h1, h2, Option.map_some] at this
    exact Option.some.inj this
  have qnd : ∀ (i j : Nat) (x y : AO), qs[i]? = some x → qs[j]? = some y → x.2.n = y.2.n → i = j := fun i j x y hi hj en => by
    have li : i < gs.length := by rw [hgl]; exact (List.getElem?_eq_some_iff.mp hi).1
    have lj : j < gs.length := by rw [hgl]; exact (List.getElem?_eq_some_iff.mp hj).1
    have ei := zq i _ x (List.getElem?_eq_getElem li) hi
    have ej := zq j _ y (List.getElem?_eq_getElem lj) hj
    obtain ⟨y1, h1, h2, _⟩ := G.ent gs[i] (List.getElem_mem li)
    obtain ⟨yp, hyp, hyp2, _⟩ := od_get h1
    have k1 := G.name hnd (List.getElem_mem lj) hyp (by rw [ej, ← en, ← ei, hyp2, h2])
    have nd := List.nodup_iff_pairwise_ne.mp G.nd
    rw [List.pairwise_map, List.pairwise_iff_getElem] at nd
    rcases Nat.lt_trichotomy i j with h | h | h
    · exact absurd k1.symm (nd i j li lj h)
    · exact h
    · exact absurd k1 (nd j i lj li h)
  refine fun D fD => ?_
  have sB := same_upd (u := .dK []) fD
  refine ⟨_, rfl, Bq, rfl, ⟨_, .inl (.inl (sB _ _ hB))⟩, ?_⟩
  refine for_list (K := K) (a := Bq) (xs := qs.map rf) (fun j σ H' => Same H H' ∧ H' D = some (.dK ((qs.take j).map kvO)) ∧ ∃ v4, σ = [some (.ref p), some (.ref Wa), some (.ref Bq), some (.ref D), v4, none, none]) ⟨sB, upd_same, none, rfl⟩ (fun j σ H' _ z => .inl (.inl (z.1 _ _ hB))) (fun j xx σ H' hx z => ?_) (fun σ H' z => ?_)
  · obtain ⟨sm, hD, v4, rfl⟩ := z
    obtain ⟨x, rfl, hxj, hxm⟩ := get_rf hx
    have hxo := sm _ _ (hOq x hxm)
    have hj : j < qs.length := (List.getElem?_eq_some_iff.mp hxj).1
    have nk : ∀ kv ∈ (qs.take j).map kvO, kv.1 ≠ Sum.inr x.2.n := fun kv hkv => by
      obtain ⟨w, hw, rfl⟩ := List.mem_map.mp hkv
      obtain ⟨m, hm, rfl⟩ := List.mem_iff_getElem.mp hw
      rw [List.length_take] at hm
      rw [List.getElem_take]
      intro z
      have := qnd m j _ x (List.getElem?_eq_getElem (by omega)) hxj (Sum.inr.inj z)
      omega
    have dget := DGet.k (k := Sum.inr x.2.n) hD
    rw [valV_none nk] at dget
    refine ⟨_, rfl, _, _, _, _, true, rfl, .tup hxo, rfl, rfl, _, rfl, iteF ?_⟩
    refine ⟨_, rfl, x.1, _, rfl, .inr (.inl (.inl hxo)), rfl, _, rfl, iteF ?_⟩
    refine ⟨_, rfl, x.1, _, _, _, rfl, rfl, .inl (.inl hxo), rfl, _, _, _, _, true, rfl, .str _, rfl, rfl, _, rfl, iteF ?_⟩
    refine ⟨_, rfl, x.1, _, _, _, rfl, rfl, .inl (.inl hxo), rfl, _, rfl, D, _, rfl, dget, _, rfl, iteF ?_⟩
    refine ⟨_, rfl, _, rfl, _, rfl, x.1, _, _, _, rfl, rfl, .inl (.inl hxo), rfl, D, _, rfl, DPut.k (k := Sum.inr x.2.n) hD (by rw [List.length_map, List.length_take]; exact szLt (by omega)), ?_⟩
    refine ⟨same_updN sm fD, ?_, _, rfl⟩
    rw [upd_same, putK_new nk, List.take_add_one, hxj, List.map_append]
    rfl
  obtain ⟨sm, hD, v4, rfl⟩ := z
  rw [List.length_map, List.take_length] at hD
  have zl : (gs.zip qs).map kvZ = qs.map kvO := by
    have : ((gs.zip qs).map (·.2)).map kvO = qs.map kvO := by rw [List.map_snd_zip (by omega)]
    rw [List.map_map] at this
    exact this
  have zm : ∀ z ∈ gs.zip qs, z.1 ∈ gs ∧ z.1.2 = z.2.2 ∧ z.2 ∈ qs := fun z hz => by
    obtain ⟨m, hm, rfl⟩ := List.mem_iff_getElem.mp hz
    have hm' := hm
    rw [List.length_zip] at hm'
    rw [List.getElem_zip]
    exact ⟨List.getElem_mem (by omega), zq m _ _ (List.getElem?_eq_getElem (by omega)) (List.getElem?_eq_getElem (by omega)), List.getElem_mem (by omega)⟩
  refine ⟨_, rfl, p, rfl, ⟨_, .inl (.inl (sm _ _ hp))⟩, ?_⟩
  refine for_enum (K := K) (a := p) (xs := ps.map rf) (fun i σ H' => ∃ (v4 v5 v6 : Option V), Same H H' ∧ H' D = some (.dK (((gs.zip qs).filter fun z => decide (i ≤ z.1.1)).map kvZ)) ∧ σ = [some (.ref p), some (.ref Wa), some (.ref Bq), some (.ref D), v4, v5, v6]) ⟨v4, none, none, sm, ?_, rfl⟩ (fun i σ H' _ z => ?_) (fun i xx σ H' tt hx z htt => ?_) (fun σ H' z => ?_)
  · rw [List.filter_eq_self.mpr fun z _ => by simp, zl]
    exact hD
  · obtain ⟨_, _, _, sm, _⟩ := z
    exact .inl (.inl (sm _ _ hp))
  · obtain ⟨w4, w5, w6, sm, hD, rfl⟩ := z
    obtain ⟨y, rfl, hy, hym⟩ := get_rf hx
    have hi : i < ps.length := (List.getElem?_eq_some_iff.mp hy).1
    have lW : W.length = ps.length := by rw [G.lw, List.length_map]
    have s1 := same_upd (u := .tup [V.int i, rf y]) htt
    refine ⟨tt, _, rfl, .inl (.inl upd_same), rfl, _, _, rfl, _, _, rfl, rfl, ?_⟩
    have hD1 := s1 _ _ hD
    have sm1 := sm.trans s1
    generalize upd H' tt (.tup [V.int i, rf y]) = H1 at hD1 sm1
    have hyo := sm1 _ _ (hO y hym)
    have hW1 := sm1 _ _ hW
    have hle := G.le i y.2 (od_of hy)
    have nm : ∀ z ∈ gs.zip qs, (z.2.2.n = y.2.n ↔ z.1.1 = i) := fun z hz => by
      obtain ⟨a1, a2, a3⟩ := zm z hz
      refine ⟨fun en => G.name hnd a1 hy (by rw [a2]; exact en), fun ei => ?_⟩
      obtain ⟨ye, b1, b2, _⟩ := G.ent z.1 a1
      rw [ei] at b1
      have : y.2 = ye := Option.some.inj ((od_of hy).symm.trans b1)
      rw [← a2, ← b2, this]
    refine ⟨_, rfl, _, rfl, Wa, _, _, _, rfl, rfl, .inl (.inl hW1), atI_nat (gi_get (by omega)), _, rfl, y.1, _, _, _, rfl, rfl, .inl (.inl hyo), rfl, _, _, rfl, rfl, _, rfl, ite2 (fun z => absurd (of_decide_eq_true z) (by omega)) (fun _ => ?_)⟩
    refine ⟨_, rfl, _, rfl, Wa, _, _, _, rfl, rfl, .inl (.inl hW1), atI_nat (gi_get (by omega)), _, rfl, y.1, _, _, _, rfl, rfl, .inl (.inl hyo), rfl, _, _, rfl, rfl, _, rfl, ?_⟩
    refine ite2 (fun c1 => ?_) (fun c1 => ?_)
    · have c2 : gi W i < y.2.l := of_decide_eq_true c1
      obtain ⟨xo, hxo⟩ := G.all i y.2 (od_of hy) c2
      obtain ⟨m, hm, em⟩ := List.mem_iff_getElem.mp hxo
      have hmq : m < qs.length := by omega
      have hzm : ((i, xo), qs[m]) ∈ gs.zip qs := by
        have hz : m < (gs.zip qs).length := by rw [List.length_zip]; omega
        have : (gs.zip qs)[m] = ((i, xo), qs[m]) := by rw [List.getElem_zip, em]
        rw [← this]
        exact List.getElem_mem hz
      obtain ⟨_, exq, hqm⟩ := zm _ hzm
      have hxq : xo = qs[m].2 := exq
      obtain ⟨ye, b1, b2, b3, b4, b5, b6, b7, b8⟩ := G.ent (i, xo) hxo
      have eye : ye = y.2 := Option.some.inj (b1.symm.trans (od_of hy))
      subst eye
      have hval : valV (((gs.zip qs).filter fun z => decide (i ≤ z.1.1)).map kvZ) (Sum.inr y.2.n) = some (rf qs[m]) := by
        refine valV_one ?_ fun kv hkv e => ?_
        · refine List.mem_map.mpr ⟨_, List.mem_filter.mpr ⟨hzm, by simp⟩, ?_⟩
          show (Sum.inr qs[m].2.n, rf qs[m]) = _
          rw [← hxq, ← b2]
        · obtain ⟨z, hz, rfl⟩ := List.mem_map.mp hkv
          have hz1 := (List.mem_filter.mp hz).1
          have e' : z.2.2.n = y.2.n := Sum.inr.inj e
          obtain ⟨m2, hm2, rfl⟩ := List.mem_iff_getElem.mp hz1
          rw [List.length_zip] at hm2
          rw [List.getElem_zip] at e' ⊢
          have : m2 = m := qnd m2 m _ _ (List.getElem?_eq_getElem (by omega)) (List.getElem?_eq_getElem hmq) (by rw [← hxq, ← b2]; exact e')
          subst this
          rfl
      have dget := DGet.k (k := Sum.inr y.2.n) hD1
      rw [hval] at dget
      refine ⟨_, rfl, y.1, _, _, _, rfl, rfl, .inl (.inl hyo), rfl, _, rfl, D, _, rfl, dget, _, rfl, iteF ?_⟩
      refine ⟨_, rfl, D, rfl, .inl ⟨_, .inl hD1⟩, _, rfl, y.1, _, _, _, rfl, rfl, .inl (.inl hyo), rfl, _, Sum.inr y.2.n, _, hD1, rfl, hval, ?_⟩
      have dk : dropK (((gs.zip qs).filter fun z => decide (i ≤ z.1.1)).map kvZ) (Sum.inr y.2.n) = ((gs.zip qs).filter fun z => decide (i + 1 ≤ z.1.1)).map kvZ := by
        unfold dropK
        rw [List.filter_map, List.filter_filter]
        congr 1
        refine List.filter_congr fun z hz => ?_
        have := nm z hz
        show (decide ((kvZ z).1 ≠ Sum.inr y.2.n) && decide (i ≤ z.1.1)) = decide (i + 1 ≤ z.1.1)
        by_cases c : z.1.1 = i
        · have e1 := this.mpr c
          have : (kvZ z).1 = Sum.inr y.2.n := congrArg Sum.inr e1
          simp [this]
          omega
        · have e1 : (kvZ z).1 ≠ Sum.inr y.2.n := fun e => c (this.mp (Sum.inr.inj e))
          simp [e1]
          omega
      rw [dk]
      have sm2 := same_updN (u := .dK (((gs.zip qs).filter fun z => decide (i + 1 ≤ z.1.1)).map kvZ)) sm1 fD
      have hD2 := upd_same (H := H1) (a := D) (o := .dK (((gs.zip qs).filter fun z => decide (i + 1 ≤ z.1.1)).map kvZ))
      generalize upd H1 D (.dK (((gs.zip qs).filter fun z => decide (i + 1 ≤ z.1.1)).map kvZ)) = H2 at sm2 hD2
      have hqo := sm2 _ _ (hOq qs[m] hqm)
      have hyo2 := sm2 _ _ (hO y hym)
      have hW2 := sm2 _ _ hW
      refine ⟨_, rfl, _, rfl, qs[m].1, _, rfl, .inl (.inl hqo), (by show ¬ (HT.sIx 7 0 none = 0 ∧ HT.sIx 7 7 (some 5) = 7); decide), fun t1 ht1 => ?_⟩
      have u1 := same_upd (u := .tup (cutV (odV qs[m].2) none (some 5))) ht1
      refine ⟨_, rfl, _, rfl, qs[m].1, _, rfl, .inl (.inl (u1 _ _ hqo)), (by show ¬ (HT.sIx 7 0 (some 6) = 0 ∧ HT.sIx 7 7 none = 7); decide), fun t2 ht2 => ?_⟩
      have u2 := same_upd' (u := .tup (cutV (odV qs[m].2) (some 6) none)) u1 ht2
      have k1 := at_upd (u := .tup (cutV (odV qs[m].2) (some 6) none)) (upd_same (H := H2) (a := t1) (o := .tup (cutV (odV qs[m].2) none (some 5)))) ht2
      refine ⟨t1, t2, _, _, rfl, rfl, .inl (.inl k1), .inl (.inl upd_same), (by intro z; cases z), (szOk (by show 5 + 1 ≤ 16777216; decide)), (by intro z; cases z), fun _ t3 ht3 => ?_⟩
      have u3 := same_upd' (u := .tup (cutV (odV qs[m].2) none (some 5) ++ cutV (odV qs[m].2) (some 6) none)) u2 ht3
      have k3 : upd (upd (upd H2 t1 (.tup (cutV (odV qs[m].2) none (some 5)))) t2 (.tup (cutV (odV qs[m].2) (some 6) none))) t3 (.tup (cutV (odV qs[m].2) none (some 5) ++ cutV (odV qs[m].2) (some 6) none)) t3 = some (.tup [.str qs[m].2.n, .str qs[m].2.w, .str qs[m].2.s, .int qs[m].2.pr, .int qs[m].2.l, .int qs[m].2.pk]) := upd_same
      generalize upd (upd (upd H2 t1 (.tup (cutV (odV qs[m].2) none (some 5)))) t2 (.tup (cutV (odV qs[m].2) (some 6) none))) t3 (.tup (cutV (odV qs[m].2) none (some 5) ++ cutV (odV qs[m].2) (some 6) none)) = H3 at u3 k3
      have hyo3 := u3 _ _ hyo2
      have hW3 := u3 _ _ hW2
      refine ⟨_, rfl, _, rfl, y.1, _, rfl, .inl (.inl hyo3), (by show ¬ (HT.sIx 7 0 none = 0 ∧ HT.sIx 7 7 (some 4) = 7); decide), fun t4 ht4 => ?_⟩
      have u4 := same_upd (u := .tup (cutV (odV y.2) none (some 4))) ht4
      have hyo4 := u4 _ _ hyo3
      have hW4 := u4 _ _ hW3
      refine ⟨_, rfl, y.1, _, _, _, rfl, rfl, .inl (.inl hyo4), rfl, _, rfl, _, rfl, Wa, _, _, _, rfl, rfl, .inl (.inl hW4), atI_nat (gi_get (by omega)), _, _, rfl, rfl, _, rfl, y.1, _, _, _, rfl, rfl, .inl (.inl hyo4), rfl, by walk_at "sz", fun t5 ht5 => ?_⟩
      have u5 := same_upd' (u := .tup [V.int (y.2.l - gi W i), V.int y.2.pk]) u4 ht5
      have k4 := at_upd (u := .tup [V.int (y.2.l - gi W i), V.int y.2.pk]) (upd_same (H := H3) (a := t4) (o := .tup (cutV (odV y.2) none (some 4)))) ht5
      refine ⟨t4, t5, _, _, rfl, rfl, .inl (.inl k4), .inl (.inl upd_same), (by intro z; cases z), (szOk (by show 4 + 2 ≤ 16777216; decide)), (by intro z; cases z), fun _ t6 ht6 => ?_⟩
      have u6 := same_upd' (u := .tup (cutV (odV y.2) none (some 4) ++ [V.int (y.2.l - gi W i), V.int y.2.pk])) u5 ht6
      have k6 : upd (upd (upd H3 t4 (.tup (cutV (odV y.2) none (some 4)))) t5 (.tup [V.int (y.2.l - gi W i), V.int y.2.pk])) t6 (.tup (cutV (odV y.2) none (some 4) ++ [V.int (y.2.l - gi W i), V.int y.2.pk])) t6 = some (.tup [.str y.2.n, .str y.2.w, .str y.2.s, .int y.2.pr, .int (y.2.l - gi W i), .int y.2.pk]) := upd_same
      generalize upd (upd (upd H3 t4 (.tup (cutV (odV y.2) none (some 4)))) t5 (.tup [V.int (y.2.l - gi W i), V.int y.2.pk])) t6 (.tup (cutV (odV y.2) none (some 4) ++ [V.int (y.2.l - gi W i), V.int y.2.pk])) = H4 at u6 k6
      have el : y.2.l - gi W i = qs[m].2.l := by rw [← hxq]; have b7' : y.2.l = xo.l + gi W i := b7; omega
      have ek : ([.str y.2.n, .str y.2.w, .str y.2.s, .int y.2.pr, .int (y.2.l - gi W i), .int y.2.pk] : List V) = [.str qs[m].2.n, .str qs[m].2.w, .str qs[m].2.s, .int qs[m].2.pr, .int qs[m].2.l, .int qs[m].2.pk] := by
        rw [el, ← hxq]
        rw [show y.2.n = xo.n from b2, show y.2.w = xo.w from b3, show y.2.s = xo.s from b4, show y.2.pr = xo.pr from b5, show y.2.pk = xo.pk from b6]
      rw [ek] at k6
      refine ⟨t3, t6, _, rfl, u6 _ _ k3, k6, rfl, (by show 6 ≤ 100; decide), _, rfl, iteF ?_⟩
      exact ⟨_, _, _, sm2.trans (u3.trans u6), u6 _ _ (u3 _ _ hD2), rfl⟩
    · have c2 : ¬ gi W i < y.2.l := fun z => c1 (decide_eq_true z)
      refine ⟨_, _, _, sm1, ?_, rfl⟩
      rw [hD1]
      congr 3
      refine List.filter_congr fun z hz => ?_
      obtain ⟨a1, a2, a3⟩ := zm z hz
      have : z.1.1 ≠ i := fun ei => by
        obtain ⟨ye, b1, _, _, _, _, _, b7, b8⟩ := G.ent z.1 a1
        rw [ei] at b1 b7
        have e2 : ye = y.2 := Option.some.inj (b1.symm.trans (od_of hy))
        obtain ⟨k1, k2, _⟩ := b8
        rw [e2] at b7
        omega
      by_cases c : i ≤ z.1.1
      · rw [decide_eq_true c, decide_eq_true (by omega)]
      · rw [decide_eq_false c, decide_eq_false (by omega)]
  obtain ⟨w4, w5, w6, sm, hD, rfl⟩ := z
  rw [List.length_map, List.filter_eq_nil_iff.mpr fun z hz => by
    obtain ⟨a1, _, _⟩ := zm z hz
    obtain ⟨ye, b1, _⟩ := G.ent z.1 a1
    have := (List.getElem?_eq_some_iff.mp b1).1
    rw [List.length_map] at this
    simp
    omega] at hD
  exact ⟨_, rfl, D, _, rfl, hD, rfl, q_true rfl (q _ sm)⟩
theorem sc_law : FnScope ["script", "side", "base", "order", "line", "last", "leap", "found", "went", "traded", "at", "one"] ["script"] (defScope (top 46)) := ⟨rfl, rfl, rfl, by decide +kernel, rfl, by decide +kernel, by decide +kernel⟩
def sp_law (K : PySem.W.Frag) : Sp := fun vs H Q _ => ∃ (a : Addr) (ns : List Int), vs = [.ref a] ∧ SqL K H a (ns.map V.int) ∧ ns.length ≤ 63 ∧ ∀ H', Q (.bl true) H'
theorem ok_law (d_law : Dv K mg "law" (top 46) ["script"]) (B : Bl mg) (C : Co mg) (R : Er K mg) (d__law_cell_at : Dv K mg "_law_cell_at" (top 31) ["script", "k"]) (G__law_cell_at : FnOk P w K mg base CX0 1 d__law_cell_at.f d__law_cell_at.fd ["script", "k"] (sp__law_cell_at K)) (d__law_incoming : Dv K mg "_law_incoming" (top 35) ["script", "side", "base"]) (G__law_incoming : FnOk P w K mg base CX0 2 d__law_incoming.f d__law_incoming.fd ["script", "side", "base"] (sp__law_incoming K)) (d__law_line : Dv K mg "_law_line" (top 38) ["script", "side", "base"]) (G__law_line : FnOk P w K mg base CX0 3 d__law_line.f d__law_line.fd ["script", "side", "base"] (sp__law_line K)) (d__law_price : Dv K mg "_law_price" (top 33) ["cell", "base"]) (G__law_price : FnOk P w K mg base CX0 1 d__law_price.f d__law_price.fd ["cell", "base"] (sp__law_price K)) (d__law_leap : Dv K mg "_law_leap" (top 39) ["cell"]) (G__law_leap : FnOk P w K mg base CX0 1 d__law_leap.f d__law_leap.fd ["cell"] (sp__law_leap K)) (d_met : Dv K mg "met" (top 28) ["order", "line", "last", "leap"]) (G_met : FnOk P w K mg base CX0 5 d_met.f d_met.fd ["order", "line", "last", "leap"] (sp_met K)) (d__law_went : Dv K mg "_law_went" (top 44) ["order", "line", "steps", "reach"]) (G__law_went : FnOk P w K mg base CX0 4 d__law_went.f d__law_went.fd ["order", "line", "steps", "reach"] (sp__law_went K)) (d__law_stands : Dv K mg "_law_stands" (top 45) ["line", "went", "after"]) (G__law_stands : FnOk P w K mg base CX0 3 d__law_stands.f d__law_stands.fd ["line", "went", "after"] (sp__law_stands K)) (d__law_plain : Dv K mg "_law_plain" (top 40) ["found", "due"]) (G__law_plain : FnOk P w K mg base CX0 1 d__law_plain.f d__law_plain.fd ["found", "due"] (sp__law_plain K)) : FnOk P w K mg base CX0 6 d_law.f d_law.fd ["script"] (sp_law K) := by
  refine d_law.F.ok sc_law (fun vs H Q E h => ?_) (fun cdv A outer s H vs Q E hr h => ?_)
  · obtain ⟨_, _, rfl, _⟩ := h; rfl
  obtain ⟨a, ns, rfl, hS, hn, q⟩ := h
  refine ⟨_, (pss_cons (ps_set (i := 1) sc_law.nd rfl (Or.inl rfl) (pe_ix ix_list (pe_lst (pa_cons pe_str (pa_cons pe_str pa_nil))) (pe_op op_mod (pe_call G__law_cell_at (hr.mono (by decide)) rfl d__law_cell_at.m d__law_cell_at.F.kp d__law_cell_at.b .nil pass0 (pa_cons (pv 0) (pa_cons pe_int pa_nil))) pe_int) (fun _ _ => rfl))) (pss_cons (ps_set (i := 2) sc_law.nd rfl (Or.inl rfl) (pe_op op_mod (pe_call G__law_cell_at (hr.mono (by decide)) rfl d__law_cell_at.m d__law_cell_at.F.kp d__law_cell_at.b .nil pass0 (pa_cons (pv 0) (pa_cons pe_int pa_nil))) (pe_op op_pow pe_int pe_int))) (pss_cons (ps_set (i := 3) sc_law.nd rfl (Or.inl rfl) (pe_call G__law_incoming (hr.mono (by decide)) rfl d__law_incoming.m d__law_incoming.F.kp d__law_incoming.b .nil pass0 (pa_cons (pv 0) (pa_cons (pv 1) (pa_cons (pv 2) pa_nil))))) (pss_cons (ps_set (i := 4) sc_law.nd rfl (Or.inl rfl) (pe_call G__law_line (hr.mono (by decide)) rfl d__law_line.m d__law_line.F.kp d__law_line.b .nil pass0 (pa_cons (pv 0) (pa_cons (pe_ix ix_list (pe_lst (pa_cons pe_str (pa_cons pe_str pa_nil))) (pe_op op_mod (pe_call G__law_cell_at (hr.mono (by decide)) rfl d__law_cell_at.m d__law_cell_at.F.kp d__law_cell_at.b .nil pass0 (pa_cons (pv 0) (pa_cons pe_int pa_nil))) pe_int) (fun _ _ => rfl)) (pa_cons (pv 2) pa_nil))))) (pss_cons (ps_set (i := 5) sc_law.nd rfl (Or.inl rfl) (pe_call G__law_price (hr.mono (by decide)) rfl d__law_price.m d__law_price.F.kp d__law_price.b .nil pass0 (pa_cons (pe_call G__law_cell_at (hr.mono (by decide)) rfl d__law_cell_at.m d__law_cell_at.F.kp d__law_cell_at.b .nil pass0 (pa_cons (pv 0) (pa_cons pe_int pa_nil))) (pa_cons (pv 2) pa_nil)))) (pss_cons (ps_set (i := 6) sc_law.nd rfl (Or.inl rfl) (pe_call G__law_leap (hr.mono (by decide)) rfl d__law_leap.m d__law_leap.F.kp d__law_leap.b .nil pass0 (pa_cons (pe_call G__law_cell_at (hr.mono (by decide)) rfl d__law_cell_at.m d__law_cell_at.F.kp d__law_cell_at.b .nil pass0 (pa_cons (pv 0) (pa_cons pe_int pa_nil))) pa_nil))) (pss_cons (ps_set (i := 7) sc_law.nd rfl (Or.inl rfl) (pe_call G_met (hr.mono (by decide)) rfl d_met.m d_met.F.kp d_met.b .nil pass0 (pa_cons (pv 3) (pa_cons (pe_callTy call_list_of rfl B.b_list PyProof.Rows.boot_list (pa_cons (pv 4) pa_nil)) (pa_cons (pv 5) (pa_cons (pv 6) pa_nil)))))) (pss_cons (ps_if (PW.pt (pw_or (pt_not (pt_val (pe_callB call_isinst rfl B.b_isinstance PyProof.Rows.boot_isinstance (pa_cons (pv 7) (pa_cons (pe_bltn (v := .ty "tuple") rfl B.b_tuple PyProof.Rows.boot_tuple rfl) pa_nil))) (fun _ => rfl))) (pw_or (pt_cmpR op_ne (pe_callB call_len_seq rfl B.b_len PySem.boot_len (pa_cons (pv 7) pa_nil)) pe_int (nomark _)) (pw_or1 (pt_not (pt_val (pe_callB call_isinst rfl B.b_isinstance PyProof.Rows.boot_isinstance (pa_cons (pe_ix ix_tup (pv 7) pe_int (fun _ _ => rfl)) (pa_cons (pe_bltn (v := .ty "bool") rfl B.b_bool PyProof.Rows.boot_bool rfl) pa_nil))) (fun _ => rfl))))))) (pss_one (ps_ret pe_bl)) pss_nil) (pss_cons (ps_if (PW.pt (pw_or (pt_not (pt_val (pe_callB call_isinst rfl B.b_isinstance PyProof.Rows.boot_isinstance (pa_cons (pe_ix ix_tup (pv 7) pe_int (fun _ _ => rfl)) (pa_cons (pe_bltn (v := .ty "list") rfl B.b_list PyProof.Rows.boot_list rfl) pa_nil))) (fun _ => rfl))) (pw_or1 (pt_not (pt_val (pe_callB call_isinst rfl B.b_isinstance PyProof.Rows.boot_isinstance (pa_cons (pe_ix ix_tup (pv 7) pe_int (fun _ _ => rfl)) (pa_cons (pe_bltn (v := .ty "list") rfl B.b_list PyProof.Rows.boot_list rfl) pa_nil))) (fun _ => rfl)))))) (pss_one (ps_ret pe_bl)) pss_nil) (pss_cons (ps_set (i := 8) sc_law.nd rfl (Or.inl rfl) (pe_call G__law_went (hr.mono (by decide)) rfl d__law_went.m d__law_went.F.kp d__law_went.b .nil pass0 (pa_cons (pv 3) (pa_cons (pv 4) (pa_cons (pe_ix ix_tup (pv 7) pe_int (fun _ _ => rfl)) (pa_cons (pe_tup (pa_cons (pv 5) (pa_cons (pv 6) pa_nil))) pa_nil)))))) (pss_cons (ps_if (PW.pt (pw_or (pt_cmpR op_isN (pv 8) pe_non (nomark _)) (pw_or1 (pt_not (pt_val (pe_call G__law_stands (hr.mono (by decide)) rfl d__law_stands.m d__law_stands.F.kp d__law_stands.b .nil pass0 (pa_cons (pv 4) (pa_cons (pv 8) (pa_cons (pe_ix ix_tup (pv 7) pe_int (fun _ _ => rfl)) pa_nil)))) (fun _ => rfl)))))) (pss_one (ps_ret pe_bl)) pss_nil) (pss_cons (ps_set (i := 9) sc_law.nd rfl (Or.inl rfl) pe_int) (pss_cons (ps_for PassesOwn.never rfl (pi_enum rfl B.b_enumerate (pv 4)) (pg_tup rfl (pgs_cons (pg_name (i := 10) sc_law.nd rfl (Or.inl rfl)) (pgs_cons (pg_name (i := 11) sc_law.nd rfl (Or.inl rfl)) pgs_nil))) (pss_one (ps_if (pt_cmpR op_ne (pe_ix ix_tup (pv 11) pe_int (fun _ _ => rfl)) (pe_ix ix_tup (pv 3) pe_int (fun _ _ => rfl)) (nomark _)) (pss_one (ps_set (i := 9) sc_law.nd rfl (Or.inl rfl) (pe_op op_add (pv 9) (pe_ix ix_list (pv 8) (pv 10) (fun _ _ => rfl))))) pss_nil))) (pss_one (ps_ret (pe_and (pe_call G__law_plain (hr.mono (by decide)) rfl d__law_plain.m d__law_plain.F.kp d__law_plain.b .nil pass0 (pa_cons (pe_ix ix_tup (pv 7) pe_int (fun _ _ => rfl)) (pa_cons (pe_op op_sub (pe_ix ix_tup (pv 3) pe_int (fun _ _ => rfl)) (pv 9)) pa_nil))) (pe_one (pe_cmpR op_ge (pe_ix ix_tup (pv 7) pe_int (fun _ _ => rfl)) pe_int (nomark _))))))))))))))))))), ?_⟩
  have e9 : (10 : Int) ^ (9 : Int).toNat = 1000000000 := by decide
  refine ⟨by walk_at "sz", fun l0 hl0 => ?_⟩
  obtain ⟨sd, atsd⟩ : ∃ sd : Str, atI [V.str "buy", V.str "sell"] (cell ns 0 % 2) = some (.str sd) := by
    have : cell ns 0 % 2 = 0 ∨ cell ns 0 % 2 = 1 := by omega
    rcases this with e | e
    · exact ⟨"buy", by rw [e]; rfl⟩
    · exact ⟨"sell", by rw [e]; rfl⟩
  obtain ⟨so, atso⟩ : ∃ sd : Str, atI [V.str "sell", V.str "buy"] (cell ns 0 % 2) = some (.str sd) := by
    have : cell ns 0 % 2 = 0 ∨ cell ns 0 % 2 = 1 := by omega
    rcases this with e | e
    · exact ⟨"sell", by rw [e]; rfl⟩
    · exact ⟨"buy", by rw [e]; rfl⟩
  have s0 := same_upd (u := .lst [V.str "buy", V.str "sell"]) hl0
  have hS0 := s0.seq hS
  refine ⟨_, rfl, a, ns, _, rfl, hS0, by decide, _, _, rfl, rfl, (by walk_at "side"), l0, _, _, _, rfl, rfl, .inl (.inl upd_same), atsd, ?_⟩
  refine ⟨_, rfl, a, ns, _, rfl, hS0, by decide, _, _, rfl, rfl, ⟨by decide, by decide, by decide⟩, _, _, rfl, rfl, (by show (0 : Int) < _; decide), ?_⟩
  refine ⟨_, rfl, _, rfl, _, rfl, a, ns, sd, _, rfl, hS0, fun H1 t o s1 ht1 ho hol1 hol2 hop1 hop2 => ?_⟩
  refine ⟨_, rfl, by walk_at "sz", fun l1 hl1 => ?_⟩
  have s2 := same_upd (u := .lst [V.str "sell", V.str "buy"]) hl1
  have hS2 := s2.seq (s1.seq hS0)
  refine ⟨_, rfl, a, ns, _, rfl, hS2, by decide, _, _, rfl, rfl, (by walk_at "side"), l1, _, _, _, rfl, rfl, .inl (.inl upd_same), atso, _, rfl, a, ns, so, _, rfl, hS2, hn, fun H3 p ps s3 hp hO hA hc hnd hsr => ?_⟩
  have hS3 := s3.seq hS2
  have ht3 := s3 _ _ (s2 _ _ ht1)
  refine ⟨_, rfl, a, ns, _, rfl, hS3, by decide, _, rfl, _, _, rfl, fun last hla1 hla2 => ?_⟩
  refine ⟨_, rfl, a, ns, _, rfl, hS3, by decide, _, rfl, fun leap H7 s7 hlp => ?_⟩
  have ht7 := s7 _ _ ht3
  have hp7 := s7 _ _ hp
  have hO7 := hO.same s7
  have hokp : ∀ x ∈ ps.map (·.2), OkO x := fun y hy => by
    obtain ⟨x, hx, rfl⟩ := List.mem_map.mp hy
    exact okO_szd (hA x hx).2
  have hmup : muS (ps.map (·.2)) ≤ 1000000 := by
    have := muS_le (os := ps.map (·.2)) fun y hy => by
      obtain ⟨x, hx, rfl⟩ := List.mem_map.mp hy
      exact mu_16 (hA x hx).2
    rw [List.length_map] at this
    omega
  refine ⟨_, rfl, _, rfl, p, _, rfl, .inl (.inl (.inl hp7)), fun hd hhd => ?_⟩
  have s8 := same_upd (u := .lst (ps.map rf)) hhd
  refine ⟨_, rfl, _, rfl, t, o, hd, ps, last, leap, rfl, s8 _ _ ht7, .inl (.inl upd_same), hO7.same s8, by omega, hmup, hnd, hokp, fun H9 T S B ss qs lf hb s9 hT hSS hR hB hOq fB nBS m1 => ?_⟩
  have sA := s8.trans s9
  have hp9 := sA _ _ hp7
  have hO9 := hO7.same sA
  refine ⟨_, rfl, _, _, _, _, true, rfl, .tup hT, rfl, rfl, _, rfl, iteF ?_⟩
  refine ⟨_, rfl, T, _, rfl, .inr (.inl (.inl hT)), rfl, _, rfl, iteF ?_⟩
  
  refine ⟨_, rfl, T, _, _, _, rfl, rfl, .inl (.inl hT), rfl, _, _, _, _, true, rfl, .bl _, rfl, rfl, _, rfl, iteF ?_⟩
  refine ⟨_, rfl, T, _, _, _, rfl, rfl, .inl (.inl hT), rfl, _, _, _, _, true, rfl, .lst hSS, rfl, rfl, _, rfl, iteF ?_⟩
  refine ⟨_, rfl, T, _, _, _, rfl, rfl, .inl (.inl hT), rfl, _, _, _, _, true, rfl, .lst hB, rfl, rfl, _, rfl, iteF ?_⟩
  have ht9 := sA _ _ ht7
  refine ⟨_, rfl, _, rfl, _, rfl, T, _, _, _, rfl, rfl, .inl (.inl hT), rfl, _, rfl, _, rfl, by walk_at "sz", fun rt hrt => ?_⟩
  have sR := same_upd (u := .tup [V.int last, V.int leap]) hrt
  refine ⟨t, o, p, ps, S, ss, rt, last, leap, qs.map (·.2), lf, hb, rfl, sR _ _ ht9, sR _ _ hp9, hO9.same sR, sR _ _ hSS, hR.same sR, upd_same, m1, hnd, hokp, by omega, by omega, fun H10 Wa W gs s10 hWa G hgq => ?_⟩
  have sX := sR.trans s10
  refine ⟨_, rfl, rfl, _, rfl, iteF ?_⟩
  refine ⟨_, rfl, _, rfl, _, rfl, T, _, _, _, rfl, rfl, .inl (.inl (sX _ _ hT)), rfl, p, ps, Wa, W, B, qs, o, lf, gs, rfl, sX _ _ hp9, hO9.same sX, hWa, sX _ _ hB, hOq.same sX, G, hgq, hnd, by omega, by have := m1.len; rw [List.length_map, List.length_map] at this; omega, fun H11 s11 => ⟨_, rfl, iteF ?_⟩⟩
  have sY := sX.trans s11
  have hW11 := s11 _ _ hWa
  have lW : W.length = ps.length := by rw [G.lw, List.length_map]
  refine ⟨_, rfl, p, rfl, ⟨_, .inl (.inl (sY _ _ hp9))⟩, ?_⟩
  refine for_enum (K := K) (a := p) (xs := ps.map rf) (fun i σ H' => ∃ (v10 v11 : Option V), Same H11 H' ∧ σ = [some (.ref a), some (.str sd), some (.int (cell ns 3 % 10 ^ (9 : Int).toNat)), some (.ref t), some (.ref p), some (.int last), some (.int leap), some (.ref T), some (.ref Wa), some (.int (trN o (ps.map (·.2)) W i)), v10, v11]) ⟨none, none, Same.refl _, rfl⟩ (fun i σ H' _ z => ?_) (fun i xx σ H' tt hx z htt => ?_) (fun σ H' z => ?_)
  · obtain ⟨_, _, sm, _⟩ := z
    exact .inl (.inl (sm _ _ (sY _ _ hp9)))
  · obtain ⟨v10, v11, sm, rfl⟩ := z
    obtain ⟨y, rfl, hy, hym⟩ := get_rf hx
    have hi : i < ps.length := (List.getElem?_eq_some_iff.mp hy).1
    have s1 := same_upd' (u := .tup [V.int i, rf y]) sm htt
    refine ⟨tt, _, rfl, .inl (.inl upd_same), rfl, _, _, rfl, _, _, rfl, rfl, ?_⟩
    generalize upd H' tt (.tup [V.int i, rf y]) = H12 at s1
    have hyo := (sY.trans s1) _ _ (hO9 y hym)
    have hto := (sY.trans s1) _ _ ht9
    have hW12 := s1 _ _ hW11
    have tr : trN o (ps.map (·.2)) W (i + 1) = trN o (ps.map (·.2)) W i + (if y.2.w = o.w then 0 else gi W i) := by
      show trN o (ps.map (·.2)) W i + _ = _
      rw [od_of hy]
    refine ⟨_, rfl, y.1, _, _, _, rfl, rfl, .inl (.inl hyo), rfl, _, rfl, t, _, _, _, rfl, rfl, .inl (.inl hto), rfl, rfl, _, rfl, ?_⟩
    by_cases c : y.2.w = o.w
    · refine iteNS (congrArg V.str c) ⟨some (.int i), some (rf y), s1, ?_⟩
      rw [tr, if_pos c, Int.add_zero]
      rfl
    · refine ite2 (fun _ => ?_) (fun z => absurd ?_ z)
      · refine ⟨_, rfl, _, rfl, _, rfl, Wa, _, _, _, rfl, rfl, .inl (.inl hW12), atI_nat (gi_get (by omega)), _, _, rfl, rfl, some (.int i), some (rf y), s1, ?_⟩
        rw [tr, if_neg c]
        rfl
      · show (!decide (V.str y.2.w = V.str o.w)) = true
        rw [decide_eq_false (fun z => c (V.str.inj z))]
        rfl
  obtain ⟨v10, v11, sm, rfl⟩ := z
  have hT12 := (sY.trans sm) _ _ hT
  have ht12 := (sY.trans sm) _ _ ht9
  have hsum := G.sum
  have hnn := G.nn
  rw [List.length_map] at hsum
  refine ⟨_, rfl, T, _, _, _, rfl, rfl, .inl (.inl hT12), rfl, _, rfl, t, _, _, _, rfl, rfl, .inl (.inl ht12), rfl, _, rfl, _, _, rfl, rfl, .int lf, ?_, rfl, true, rfl, iteT ?_⟩
  · rw [List.length_map]
    show [V.int lf, V.int (o.l - trN o (ps.map (·.2)) W ps.length)] = _
    rw [show o.l - trN o (ps.map (·.2)) W ps.length = lf by omega]
  · exact ⟨_, rfl, T, _, _, _, rfl, rfl, .inl (.inl hT12), rfl, _, _, rfl, rfl, q_true hnn (q _)⟩
end
theorem all_mk {l : PySem.W.OpenLaw} {w : World} {K : PySem.W.Frag} {h : Heap} {mg : Str → Option Value} {fa f_checked_number f_shown_anew f_with_parts f_fresh f_renews f_filled f_ahead f_allows f_names_of f_joining_place f_joined f_served f_looked_at f_met f__law_cell_at f__law_name f__law_price f__law_allows f__law_incoming f__law_sized f__law_put f__law_line f__law_leap f__law_plain f__law_row f__law_step_right f__law_went f__law_stands f_law c_BadNumber c_NoOrder c_Twice : Addr} (X : K.In h) (G : h.Ns mainGlobals mg) (hfa : mg "law" = some (.ref fa))
    {od_checked_number an_checked_number od_shown_anew an_shown_anew od_with_parts an_with_parts od_fresh an_fresh od_renews an_renews od_filled an_filled od_ahead an_ahead od_allows an_allows od_names_of an_names_of od_joining_place an_joining_place od_joined an_joined od_served an_served od_looked_at an_looked_at od_met an_met od__law_cell_at an__law_cell_at od__law_name an__law_name od__law_price an__law_price od__law_allows an__law_allows od__law_incoming an__law_incoming od__law_sized an__law_sized od__law_put an__law_put od__law_line an__law_line od__law_leap an__law_leap od__law_plain an__law_plain od__law_row an__law_row od__law_step_right an__law_step_right od__law_went an__law_went od__law_stands an__law_stands od_law an_law : Option Addr} {sl_checked_number sl_shown_anew sl_with_parts sl_fresh sl_renews sl_filled sl_ahead sl_allows sl_names_of sl_joining_place sl_joined sl_served sl_looked_at sl_met sl__law_cell_at sl__law_name sl__law_price sl__law_allows sl__law_incoming sl__law_sized sl__law_put sl__law_line sl__law_leap sl__law_plain sl__law_row sl__law_step_right sl__law_went sl__law_stands sl_law : Array (Option Value)} {oc_checked_number kV_checked_number dc_checked_number pm_checked_number cd_checked_number ct_checked_number oc_shown_anew kV_shown_anew dc_shown_anew pm_shown_anew cd_shown_anew ct_shown_anew oc_with_parts kV_with_parts dc_with_parts pm_with_parts cd_with_parts ct_with_parts oc_fresh kV_fresh dc_fresh pm_fresh cd_fresh ct_fresh oc_renews kV_renews dc_renews pm_renews cd_renews ct_renews oc_filled kV_filled dc_filled pm_filled cd_filled ct_filled oc_ahead kV_ahead dc_ahead pm_ahead cd_ahead ct_ahead oc_allows kV_allows dc_allows pm_allows cd_allows ct_allows oc_names_of kV_names_of dc_names_of pm_names_of cd_names_of ct_names_of oc_joining_place kV_joining_place dc_joining_place pm_joining_place cd_joining_place ct_joining_place oc_joined kV_joined dc_joined pm_joined cd_joined ct_joined oc_served kV_served dc_served pm_served cd_served ct_served oc_looked_at kV_looked_at dc_looked_at pm_looked_at cd_looked_at ct_looked_at oc_met kV_met dc_met pm_met cd_met ct_met oc__law_cell_at kV__law_cell_at dc__law_cell_at pm__law_cell_at cd__law_cell_at ct__law_cell_at oc__law_name kV__law_name dc__law_name pm__law_name cd__law_name ct__law_name oc__law_price kV__law_price dc__law_price pm__law_price cd__law_price ct__law_price oc__law_allows kV__law_allows dc__law_allows pm__law_allows cd__law_allows ct__law_allows oc__law_incoming kV__law_incoming dc__law_incoming pm__law_incoming cd__law_incoming ct__law_incoming oc__law_sized kV__law_sized dc__law_sized pm__law_sized cd__law_sized ct__law_sized oc__law_put kV__law_put dc__law_put pm__law_put cd__law_put ct__law_put oc__law_line kV__law_line dc__law_line pm__law_line cd__law_line ct__law_line oc__law_leap kV__law_leap dc__law_leap pm__law_leap cd__law_leap ct__law_leap oc__law_plain kV__law_plain dc__law_plain pm__law_plain cd__law_plain ct__law_plain oc__law_row kV__law_row dc__law_row pm__law_row cd__law_row ct__law_row oc__law_step_right kV__law_step_right dc__law_step_right pm__law_step_right cd__law_step_right ct__law_step_right oc__law_went kV__law_went dc__law_went pm__law_went cd__law_went ct__law_went oc__law_stands kV__law_stands dc__law_stands pm__law_stands cd__law_stands ct__law_stands oc_law kV_law dc_law pm_law cd_law ct_law : Value} {t_LEFT t_NAME t_PEAK t_PRICE t_SHOWN t_SIDE t_WHO : Tok} {xc_BadNumber xc_NoOrder xc_Twice : ClassData}
    (a_checked_number : PySem.W.nsIn K mainGlobals "checked_number" = some (some (.ref f_checked_number)))
    (l_checked_number : K.lookup f_checked_number = some ⟨oc_checked_number, od_checked_number, .func (PySem.W.fnOf "checked_number" "checked_number" (defArgs (top 6)) (defBody (top 6)) (defScope (top 6)) .none kV_checked_number dc_checked_number pm_checked_number an_checked_number cd_checked_number ct_checked_number), sl_checked_number⟩)
    (q_checked_number : PySem.W.codeIn K cd_checked_number "checked_number" = true)
    (k_checked_number : PySem.W.keepIn K (.ref f_checked_number) = true)
    (a_shown_anew : PySem.W.nsIn K mainGlobals "shown_anew" = some (some (.ref f_shown_anew)))
    (l_shown_anew : K.lookup f_shown_anew = some ⟨oc_shown_anew, od_shown_anew, .func (PySem.W.fnOf "shown_anew" "shown_anew" (defArgs (top 20)) (defBody (top 20)) (defScope (top 20)) .none kV_shown_anew dc_shown_anew pm_shown_anew an_shown_anew cd_shown_anew ct_shown_anew), sl_shown_anew⟩)
    (q_shown_anew : PySem.W.codeIn K cd_shown_anew "shown_anew" = true)
    (k_shown_anew : PySem.W.keepIn K (.ref f_shown_anew) = true)
    (a_with_parts : PySem.W.nsIn K mainGlobals "with_parts" = some (some (.ref f_with_parts)))
    (l_with_parts : K.lookup f_with_parts = some ⟨oc_with_parts, od_with_parts, .func (PySem.W.fnOf "with_parts" "with_parts" (defArgs (top 21)) (defBody (top 21)) (defScope (top 21)) .none kV_with_parts dc_with_parts pm_with_parts an_with_parts cd_with_parts ct_with_parts), sl_with_parts⟩)
    (q_with_parts : PySem.W.codeIn K cd_with_parts "with_parts" = true)
    (k_with_parts : PySem.W.keepIn K (.ref f_with_parts) = true)
    (a_fresh : PySem.W.nsIn K mainGlobals "fresh" = some (some (.ref f_fresh)))
    (l_fresh : K.lookup f_fresh = some ⟨oc_fresh, od_fresh, .func (PySem.W.fnOf "fresh" "fresh" (defArgs (top 15)) (defBody (top 15)) (defScope (top 15)) .none kV_fresh dc_fresh pm_fresh an_fresh cd_fresh ct_fresh), sl_fresh⟩)
    (q_fresh : PySem.W.codeIn K cd_fresh "fresh" = true)
    (k_fresh : PySem.W.keepIn K (.ref f_fresh) = true)
    (a_renews : PySem.W.nsIn K mainGlobals "renews" = some (some (.ref f_renews)))
    (l_renews : K.lookup f_renews = some ⟨oc_renews, od_renews, .func (PySem.W.fnOf "renews" "renews" (defArgs (top 17)) (defBody (top 17)) (defScope (top 17)) .none kV_renews dc_renews pm_renews an_renews cd_renews ct_renews), sl_renews⟩)
    (q_renews : PySem.W.codeIn K cd_renews "renews" = true)
    (k_renews : PySem.W.keepIn K (.ref f_renews) = true)
    (a_filled : PySem.W.nsIn K mainGlobals "filled" = some (some (.ref f_filled)))
    (l_filled : K.lookup f_filled = some ⟨oc_filled, od_filled, .func (PySem.W.fnOf "filled" "filled" (defArgs (top 16)) (defBody (top 16)) (defScope (top 16)) .none kV_filled dc_filled pm_filled an_filled cd_filled ct_filled), sl_filled⟩)
    (q_filled : PySem.W.codeIn K cd_filled "filled" = true)
    (k_filled : PySem.W.keepIn K (.ref f_filled) = true)
    (a_ahead : PySem.W.nsIn K mainGlobals "ahead" = some (some (.ref f_ahead)))
    (l_ahead : K.lookup f_ahead = some ⟨oc_ahead, od_ahead, .func (PySem.W.fnOf "ahead" "ahead" (defArgs (top 18)) (defBody (top 18)) (defScope (top 18)) .none kV_ahead dc_ahead pm_ahead an_ahead cd_ahead ct_ahead), sl_ahead⟩)
    (q_ahead : PySem.W.codeIn K cd_ahead "ahead" = true)
    (k_ahead : PySem.W.keepIn K (.ref f_ahead) = true)
    (a_allows : PySem.W.nsIn K mainGlobals "allows" = some (some (.ref f_allows)))
    (l_allows : K.lookup f_allows = some ⟨oc_allows, od_allows, .func (PySem.W.fnOf "allows" "allows" (defArgs (top 19)) (defBody (top 19)) (defScope (top 19)) .none kV_allows dc_allows pm_allows an_allows cd_allows ct_allows), sl_allows⟩)
    (q_allows : PySem.W.codeIn K cd_allows "allows" = true)
    (k_allows : PySem.W.keepIn K (.ref f_allows) = true)
    (a_names_of : PySem.W.nsIn K mainGlobals "names_of" = some (some (.ref f_names_of)))
    (l_names_of : K.lookup f_names_of = some ⟨oc_names_of, od_names_of, .func (PySem.W.fnOf "names_of" "names_of" (defArgs (top 25)) (defBody (top 25)) (defScope (top 25)) .none kV_names_of dc_names_of pm_names_of an_names_of cd_names_of ct_names_of), sl_names_of⟩)
    (q_names_of : PySem.W.codeIn K cd_names_of "names_of" = true)
    (k_names_of : PySem.W.keepIn K (.ref f_names_of) = true)
    (a_joining_place : PySem.W.nsIn K mainGlobals "joining_place" = some (some (.ref f_joining_place)))
    (l_joining_place : K.lookup f_joining_place = some ⟨oc_joining_place, od_joining_place, .func (PySem.W.fnOf "joining_place" "joining_place" (defArgs (top 26)) (defBody (top 26)) (defScope (top 26)) .none kV_joining_place dc_joining_place pm_joining_place an_joining_place cd_joining_place ct_joining_place), sl_joining_place⟩)
    (q_joining_place : PySem.W.codeIn K cd_joining_place "joining_place" = true)
    (k_joining_place : PySem.W.keepIn K (.ref f_joining_place) = true)
    (a_joined : PySem.W.nsIn K mainGlobals "joined" = some (some (.ref f_joined)))
    (l_joined : K.lookup f_joined = some ⟨oc_joined, od_joined, .func (PySem.W.fnOf "joined" "joined" (defArgs (top 23)) (defBody (top 23)) (defScope (top 23)) .none kV_joined dc_joined pm_joined an_joined cd_joined ct_joined), sl_joined⟩)
    (q_joined : PySem.W.codeIn K cd_joined "joined" = true)
    (k_joined : PySem.W.keepIn K (.ref f_joined) = true)
    (a_served : PySem.W.nsIn K mainGlobals "served" = some (some (.ref f_served)))
    (l_served : K.lookup f_served = some ⟨oc_served, od_served, .func (PySem.W.fnOf "served" "served" (defArgs (top 24)) (defBody (top 24)) (defScope (top 24)) .none kV_served dc_served pm_served an_served cd_served ct_served), sl_served⟩)
    (q_served : PySem.W.codeIn K cd_served "served" = true)
    (k_served : PySem.W.keepIn K (.ref f_served) = true)
    (a_looked_at : PySem.W.nsIn K mainGlobals "looked_at" = some (some (.ref f_looked_at)))
    (l_looked_at : K.lookup f_looked_at = some ⟨oc_looked_at, od_looked_at, .func (PySem.W.fnOf "looked_at" "looked_at" (defArgs (top 29)) (defBody (top 29)) (defScope (top 29)) .none kV_looked_at dc_looked_at pm_looked_at an_looked_at cd_looked_at ct_looked_at), sl_looked_at⟩)
    (q_looked_at : PySem.W.codeIn K cd_looked_at "looked_at" = true)
    (k_looked_at : PySem.W.keepIn K (.ref f_looked_at) = true)
    (a_met : PySem.W.nsIn K mainGlobals "met" = some (some (.ref f_met)))
    (l_met : K.lookup f_met = some ⟨oc_met, od_met, .func (PySem.W.fnOf "met" "met" (defArgs (top 28)) (defBody (top 28)) (defScope (top 28)) .none kV_met dc_met pm_met an_met cd_met ct_met), sl_met⟩)
    (q_met : PySem.W.codeIn K cd_met "met" = true)
    (k_met : PySem.W.keepIn K (.ref f_met) = true)
    (a__law_cell_at : PySem.W.nsIn K mainGlobals "_law_cell_at" = some (some (.ref f__law_cell_at)))
    (l__law_cell_at : K.lookup f__law_cell_at = some ⟨oc__law_cell_at, od__law_cell_at, .func (PySem.W.fnOf "_law_cell_at" "_law_cell_at" (defArgs (top 31)) (defBody (top 31)) (defScope (top 31)) .none kV__law_cell_at dc__law_cell_at pm__law_cell_at an__law_cell_at cd__law_cell_at ct__law_cell_at), sl__law_cell_at⟩)
    (q__law_cell_at : PySem.W.codeIn K cd__law_cell_at "_law_cell_at" = true)
    (k__law_cell_at : PySem.W.keepIn K (.ref f__law_cell_at) = true)
    (a__law_name : PySem.W.nsIn K mainGlobals "_law_name" = some (some (.ref f__law_name)))
    (l__law_name : K.lookup f__law_name = some ⟨oc__law_name, od__law_name, .func (PySem.W.fnOf "_law_name" "_law_name" (defArgs (top 32)) (defBody (top 32)) (defScope (top 32)) .none kV__law_name dc__law_name pm__law_name an__law_name cd__law_name ct__law_name), sl__law_name⟩)
    (q__law_name : PySem.W.codeIn K cd__law_name "_law_name" = true)
    (k__law_name : PySem.W.keepIn K (.ref f__law_name) = true)
    (a__law_price : PySem.W.nsIn K mainGlobals "_law_price" = some (some (.ref f__law_price)))
    (l__law_price : K.lookup f__law_price = some ⟨oc__law_price, od__law_price, .func (PySem.W.fnOf "_law_price" "_law_price" (defArgs (top 33)) (defBody (top 33)) (defScope (top 33)) .none kV__law_price dc__law_price pm__law_price an__law_price cd__law_price ct__law_price), sl__law_price⟩)
    (q__law_price : PySem.W.codeIn K cd__law_price "_law_price" = true)
    (k__law_price : PySem.W.keepIn K (.ref f__law_price) = true)
    (a__law_allows : PySem.W.nsIn K mainGlobals "_law_allows" = some (some (.ref f__law_allows)))
    (l__law_allows : K.lookup f__law_allows = some ⟨oc__law_allows, od__law_allows, .func (PySem.W.fnOf "_law_allows" "_law_allows" (defArgs (top 34)) (defBody (top 34)) (defScope (top 34)) .none kV__law_allows dc__law_allows pm__law_allows an__law_allows cd__law_allows ct__law_allows), sl__law_allows⟩)
    (q__law_allows : PySem.W.codeIn K cd__law_allows "_law_allows" = true)
    (k__law_allows : PySem.W.keepIn K (.ref f__law_allows) = true)
    (a__law_incoming : PySem.W.nsIn K mainGlobals "_law_incoming" = some (some (.ref f__law_incoming)))
    (l__law_incoming : K.lookup f__law_incoming = some ⟨oc__law_incoming, od__law_incoming, .func (PySem.W.fnOf "_law_incoming" "_law_incoming" (defArgs (top 35)) (defBody (top 35)) (defScope (top 35)) .none kV__law_incoming dc__law_incoming pm__law_incoming an__law_incoming cd__law_incoming ct__law_incoming), sl__law_incoming⟩)
    (q__law_incoming : PySem.W.codeIn K cd__law_incoming "_law_incoming" = true)
    (k__law_incoming : PySem.W.keepIn K (.ref f__law_incoming) = true)
    (a__law_sized : PySem.W.nsIn K mainGlobals "_law_sized" = some (some (.ref f__law_sized)))
    (l__law_sized : K.lookup f__law_sized = some ⟨oc__law_sized, od__law_sized, .func (PySem.W.fnOf "_law_sized" "_law_sized" (defArgs (top 36)) (defBody (top 36)) (defScope (top 36)) .none kV__law_sized dc__law_sized pm__law_sized an__law_sized cd__law_sized ct__law_sized), sl__law_sized⟩)
    (q__law_sized : PySem.W.codeIn K cd__law_sized "_law_sized" = true)
    (k__law_sized : PySem.W.keepIn K (.ref f__law_sized) = true)
    (a__law_put : PySem.W.nsIn K mainGlobals "_law_put" = some (some (.ref f__law_put)))
    (l__law_put : K.lookup f__law_put = some ⟨oc__law_put, od__law_put, .func (PySem.W.fnOf "_law_put" "_law_put" (defArgs (top 37)) (defBody (top 37)) (defScope (top 37)) .none kV__law_put dc__law_put pm__law_put an__law_put cd__law_put ct__law_put), sl__law_put⟩)
    (q__law_put : PySem.W.codeIn K cd__law_put "_law_put" = true)
    (k__law_put : PySem.W.keepIn K (.ref f__law_put) = true)
    (a__law_line : PySem.W.nsIn K mainGlobals "_law_line" = some (some (.ref f__law_line)))
    (l__law_line : K.lookup f__law_line = some ⟨oc__law_line, od__law_line, .func (PySem.W.fnOf "_law_line" "_law_line" (defArgs (top 38)) (defBody (top 38)) (defScope (top 38)) .none kV__law_line dc__law_line pm__law_line an__law_line cd__law_line ct__law_line), sl__law_line⟩)
    (q__law_line : PySem.W.codeIn K cd__law_line "_law_line" = true)
    (k__law_line : PySem.W.keepIn K (.ref f__law_line) = true)
    (a__law_leap : PySem.W.nsIn K mainGlobals "_law_leap" = some (some (.ref f__law_leap)))
    (l__law_leap : K.lookup f__law_leap = some ⟨oc__law_leap, od__law_leap, .func (PySem.W.fnOf "_law_leap" "_law_leap" (defArgs (top 39)) (defBody (top 39)) (defScope (top 39)) .none kV__law_leap dc__law_leap pm__law_leap an__law_leap cd__law_leap ct__law_leap), sl__law_leap⟩)
    (q__law_leap : PySem.W.codeIn K cd__law_leap "_law_leap" = true)
    (k__law_leap : PySem.W.keepIn K (.ref f__law_leap) = true)
    (a__law_plain : PySem.W.nsIn K mainGlobals "_law_plain" = some (some (.ref f__law_plain)))
    (l__law_plain : K.lookup f__law_plain = some ⟨oc__law_plain, od__law_plain, .func (PySem.W.fnOf "_law_plain" "_law_plain" (defArgs (top 40)) (defBody (top 40)) (defScope (top 40)) .none kV__law_plain dc__law_plain pm__law_plain an__law_plain cd__law_plain ct__law_plain), sl__law_plain⟩)
    (q__law_plain : PySem.W.codeIn K cd__law_plain "_law_plain" = true)
    (k__law_plain : PySem.W.keepIn K (.ref f__law_plain) = true)
    (a__law_row : PySem.W.nsIn K mainGlobals "_law_row" = some (some (.ref f__law_row)))
    (l__law_row : K.lookup f__law_row = some ⟨oc__law_row, od__law_row, .func (PySem.W.fnOf "_law_row" "_law_row" (defArgs (top 41)) (defBody (top 41)) (defScope (top 41)) .none kV__law_row dc__law_row pm__law_row an__law_row cd__law_row ct__law_row), sl__law_row⟩)
    (q__law_row : PySem.W.codeIn K cd__law_row "_law_row" = true)
    (k__law_row : PySem.W.keepIn K (.ref f__law_row) = true)
    (a__law_step_right : PySem.W.nsIn K mainGlobals "_law_step_right" = some (some (.ref f__law_step_right)))
    (l__law_step_right : K.lookup f__law_step_right = some ⟨oc__law_step_right, od__law_step_right, .func (PySem.W.fnOf "_law_step_right" "_law_step_right" (defArgs (top 43)) (defBody (top 43)) (defScope (top 43)) .none kV__law_step_right dc__law_step_right pm__law_step_right an__law_step_right cd__law_step_right ct__law_step_right), sl__law_step_right⟩)
    (q__law_step_right : PySem.W.codeIn K cd__law_step_right "_law_step_right" = true)
    (k__law_step_right : PySem.W.keepIn K (.ref f__law_step_right) = true)
    (a__law_went : PySem.W.nsIn K mainGlobals "_law_went" = some (some (.ref f__law_went)))
    (l__law_went : K.lookup f__law_went = some ⟨oc__law_went, od__law_went, .func (PySem.W.fnOf "_law_went" "_law_went" (defArgs (top 44)) (defBody (top 44)) (defScope (top 44)) .none kV__law_went dc__law_went pm__law_went an__law_went cd__law_went ct__law_went), sl__law_went⟩)
    (q__law_went : PySem.W.codeIn K cd__law_went "_law_went" = true)
    (k__law_went : PySem.W.keepIn K (.ref f__law_went) = true)
    (a__law_stands : PySem.W.nsIn K mainGlobals "_law_stands" = some (some (.ref f__law_stands)))
    (l__law_stands : K.lookup f__law_stands = some ⟨oc__law_stands, od__law_stands, .func (PySem.W.fnOf "_law_stands" "_law_stands" (defArgs (top 45)) (defBody (top 45)) (defScope (top 45)) .none kV__law_stands dc__law_stands pm__law_stands an__law_stands cd__law_stands ct__law_stands), sl__law_stands⟩)
    (q__law_stands : PySem.W.codeIn K cd__law_stands "_law_stands" = true)
    (k__law_stands : PySem.W.keepIn K (.ref f__law_stands) = true)
    (a_law : PySem.W.nsIn K mainGlobals "law" = some (some (.ref f_law)))
    (l_law : K.lookup f_law = some ⟨oc_law, od_law, .func (PySem.W.fnOf "law" "law" (defArgs (top 46)) (defBody (top 46)) (defScope (top 46)) .none kV_law dc_law pm_law an_law cd_law ct_law), sl_law⟩)
    (q_law : PySem.W.codeIn K cd_law "law" = true)
    (k_law : PySem.W.keepIn K (.ref f_law) = true)
    (z_abs : PySem.W.nsIn K mainGlobals "abs" = some none)
    (z_bool : PySem.W.nsIn K mainGlobals "bool" = some none)
    (z_enumerate : PySem.W.nsIn K mainGlobals "enumerate" = some none)
    (z_int : PySem.W.nsIn K mainGlobals "int" = some none)
    (z_isinstance : PySem.W.nsIn K mainGlobals "isinstance" = some none)
    (z_len : PySem.W.nsIn K mainGlobals "len" = some none)
    (z_list : PySem.W.nsIn K mainGlobals "list" = some none)
    (z_min : PySem.W.nsIn K mainGlobals "min" = some none)
    (z_range : PySem.W.nsIn K mainGlobals "range" = some none)
    (z_str : PySem.W.nsIn K mainGlobals "str" = some none)
    (z_tuple : PySem.W.nsIn K mainGlobals "tuple" = some none)
    (u_LEFT : PySem.W.nsIn K mainGlobals "LEFT" = some (some (.int 4 t_LEFT)))
    (u_NAME : PySem.W.nsIn K mainGlobals "NAME" = some (some (.int 0 t_NAME)))
    (u_PEAK : PySem.W.nsIn K mainGlobals "PEAK" = some (some (.int 6 t_PEAK)))
    (u_PRICE : PySem.W.nsIn K mainGlobals "PRICE" = some (some (.int 3 t_PRICE)))
    (u_SHOWN : PySem.W.nsIn K mainGlobals "SHOWN" = some (some (.int 5 t_SHOWN)))
    (u_SIDE : PySem.W.nsIn K mainGlobals "SIDE" = some (some (.int 2 t_SIDE)))
    (u_WHO : PySem.W.nsIn K mainGlobals "WHO" = some (some (.int 1 t_WHO)))
    (y_BadNumber : PySem.W.nsIn K mainGlobals "BadNumber" = some (some (.ref c_BadNumber)))
    (y_NoOrder : PySem.W.nsIn K mainGlobals "NoOrder" = some (some (.ref c_NoOrder)))
    (y_Twice : PySem.W.nsIn K mainGlobals "Twice" = some (some (.ref c_Twice)))
    (w_x_BadNumber : PySem.W.excIn K c_BadNumber [.type "ValueError", .type "Exception", .type "BaseException", .type "object"] "ValueError.__new__" = true)
    (w_i_BadNumber_BadNumber : PySem.W.kitOne K (.ref c_BadNumber) (.ref c_BadNumber) = some true)
    (w_i_BadNumber_NoOrder : PySem.W.kitOne K (.ref c_BadNumber) (.ref c_NoOrder) = some false)
    (w_i_BadNumber_Twice : PySem.W.kitOne K (.ref c_BadNumber) (.ref c_Twice) = some false)
    (w_x_NoOrder : PySem.W.excIn K c_NoOrder [.type "ValueError", .type "Exception", .type "BaseException", .type "object"] "ValueError.__new__" = true)
    (w_i_NoOrder_BadNumber : PySem.W.kitOne K (.ref c_NoOrder) (.ref c_BadNumber) = some false)
    (w_i_NoOrder_NoOrder : PySem.W.kitOne K (.ref c_NoOrder) (.ref c_NoOrder) = some true)
    (w_i_NoOrder_Twice : PySem.W.kitOne K (.ref c_NoOrder) (.ref c_Twice) = some false)
    (w_x_Twice : PySem.W.excIn K c_Twice [.type "ValueError", .type "Exception", .type "BaseException", .type "object"] "ValueError.__new__" = true)
    (w_i_Twice_BadNumber : PySem.W.kitOne K (.ref c_Twice) (.ref c_BadNumber) = some false)
    (w_i_Twice_NoOrder : PySem.W.kitOne K (.ref c_Twice) (.ref c_NoOrder) = some false)
    (w_i_Twice_Twice : PySem.W.kitOne K (.ref c_Twice) (.ref c_Twice) = some true)
    (v_BadNumber_cls : PySem.W.clsIn K c_BadNumber = some xc_BadNumber)
    (v_BadNumber_ga : PySem.W.findIn K (.ref c_BadNumber) "__getattribute__" = some (some (.builtin "BaseException.__getattribute__")))
    (v_BadNumber_gt : PySem.W.findIn K (.ref c_BadNumber) "__getattr__" = some none)
    (v_BadNumber_at_ : PySem.W.findIn K (.ref c_BadNumber) "__class__" = some (some (.builtin "object.__class__")))
    (v_BadNumber_get : PySem.W.specialIn K (.builtin "object.__class__") "__get__" = some (some (.builtin "getset_descriptor.__get__")))
    (v_BadNumber_tk : PySem.W.takesIn K (.builtin "object.__class__") = some true)
    (v_BadNumber_obj : PySem.W.mroIn K c_BadNumber (.type "object") = some true)
    (v_BadNumber_exc : PySem.W.mroIn K c_BadNumber (.type "BaseException") = some true)
    (v_NoOrder_cls : PySem.W.clsIn K c_NoOrder = some xc_NoOrder)
    (v_NoOrder_ga : PySem.W.findIn K (.ref c_NoOrder) "__getattribute__" = some (some (.builtin "BaseException.__getattribute__")))
    (v_NoOrder_gt : PySem.W.findIn K (.ref c_NoOrder) "__getattr__" = some none)
    (v_NoOrder_at_ : PySem.W.findIn K (.ref c_NoOrder) "__class__" = some (some (.builtin "object.__class__")))
    (v_NoOrder_get : PySem.W.specialIn K (.builtin "object.__class__") "__get__" = some (some (.builtin "getset_descriptor.__get__")))
    (v_NoOrder_tk : PySem.W.takesIn K (.builtin "object.__class__") = some true)
    (v_NoOrder_obj : PySem.W.mroIn K c_NoOrder (.type "object") = some true)
    (v_NoOrder_exc : PySem.W.mroIn K c_NoOrder (.type "BaseException") = some true)
    (v_Twice_cls : PySem.W.clsIn K c_Twice = some xc_Twice)
    (v_Twice_ga : PySem.W.findIn K (.ref c_Twice) "__getattribute__" = some (some (.builtin "BaseException.__getattribute__")))
    (v_Twice_gt : PySem.W.findIn K (.ref c_Twice) "__getattr__" = some none)
    (v_Twice_at_ : PySem.W.findIn K (.ref c_Twice) "__class__" = some (some (.builtin "object.__class__")))
    (v_Twice_get : PySem.W.specialIn K (.builtin "object.__class__") "__get__" = some (some (.builtin "getset_descriptor.__get__")))
    (v_Twice_tk : PySem.W.takesIn K (.builtin "object.__class__") = some true)
    (v_Twice_obj : PySem.W.mroIn K c_Twice (.type "object") = some true)
    (v_Twice_exc : PySem.W.mroIn K c_Twice (.type "BaseException") = some true)
    : ∃ fd : FuncData, (∀ (s : Shared) (v : Value), BindsTo s fd ⟨[v], []⟩ [("script", v)]) ∧ ∀ base : Heap, K.In base → base.Ns mainGlobals mg → FnOk l.prog w K mg base CX0 6 fa fd ["script"] (sp_law K) := by
  have e := hfa.symm.trans (PySem.W.mg_of X G a_law)
  cases e
  have B : Bl mg := ⟨PySem.W.mg_none_of X G z_abs, PySem.W.mg_none_of X G z_bool, PySem.W.mg_none_of X G z_enumerate, PySem.W.mg_none_of X G z_int, PySem.W.mg_none_of X G z_isinstance, PySem.W.mg_none_of X G z_len, PySem.W.mg_none_of X G z_list, PySem.W.mg_none_of X G z_min, PySem.W.mg_none_of X G z_range, PySem.W.mg_none_of X G z_str, PySem.W.mg_none_of X G z_tuple⟩
  let C : Co mg := ⟨_, _, _, _, _, _, _, PySem.W.mg_of X G u_LEFT, PySem.W.mg_of X G u_NAME, PySem.W.mg_of X G u_PEAK, PySem.W.mg_of X G u_PRICE, PySem.W.mg_of X G u_SHOWN, PySem.W.mg_of X G u_SIDE, PySem.W.mg_of X G u_WHO⟩
  let R : Er K mg := ⟨c_BadNumber, c_NoOrder, c_Twice, PySem.W.mg_of X G y_BadNumber, PySem.W.mg_of X G y_NoOrder, PySem.W.mg_of X G y_Twice, w_x_BadNumber, w_i_BadNumber_BadNumber, w_i_BadNumber_NoOrder, w_i_BadNumber_Twice, w_x_NoOrder, w_i_NoOrder_BadNumber, w_i_NoOrder_NoOrder, w_i_NoOrder_Twice, w_x_Twice, w_i_Twice_BadNumber, w_i_Twice_NoOrder, w_i_Twice_Twice, ⟨(by rw [v_BadNumber_cls]; rfl), v_BadNumber_ga, v_BadNumber_gt, v_BadNumber_at_, v_BadNumber_get, v_BadNumber_tk, v_BadNumber_obj, v_BadNumber_exc⟩, ⟨(by rw [v_NoOrder_cls]; rfl), v_NoOrder_ga, v_NoOrder_gt, v_NoOrder_at_, v_NoOrder_get, v_NoOrder_tk, v_NoOrder_obj, v_NoOrder_exc⟩, ⟨(by rw [v_Twice_cls]; rfl), v_Twice_ga, v_Twice_gt, v_Twice_at_, v_Twice_get, v_Twice_tk, v_Twice_obj, v_Twice_exc⟩⟩
  let d_checked_number : Dv K mg "checked_number" (top 6) ["number", "low", "high"] := ⟨f_checked_number, _, fun_mk (st := top 6) l_checked_number q_checked_number k_checked_number, (fun_mk (st := top 6) l_checked_number q_checked_number k_checked_number).binds fun _ _ _ _ _ _ us hl => match us, hl with | [_, _, _], _ => rfl, PySem.W.mg_of X G a_checked_number⟩
  let d_shown_anew : Dv K mg "shown_anew" (top 20) ["left", "peak"] := ⟨f_shown_anew, _, fun_mk (st := top 20) l_shown_anew q_shown_anew k_shown_anew, (fun_mk (st := top 20) l_shown_anew q_shown_anew k_shown_anew).binds fun _ _ _ _ _ _ us hl => match us, hl with | [_, _], _ => rfl, PySem.W.mg_of X G a_shown_anew⟩
  let d_with_parts : Dv K mg "with_parts" (top 21) ["order", "left", "shown"] := ⟨f_with_parts, _, fun_mk (st := top 21) l_with_parts q_with_parts k_with_parts, (fun_mk (st := top 21) l_with_parts q_with_parts k_with_parts).binds fun _ _ _ _ _ _ us hl => match us, hl with | [_, _, _], _ => rfl, PySem.W.mg_of X G a_with_parts⟩
  let d_fresh : Dv K mg "fresh" (top 15) ["order", "left"] := ⟨f_fresh, _, fun_mk (st := top 15) l_fresh q_fresh k_fresh, (fun_mk (st := top 15) l_fresh q_fresh k_fresh).binds fun _ _ _ _ _ _ us hl => match us, hl with | [_, _], _ => rfl, PySem.W.mg_of X G a_fresh⟩
  let d_renews : Dv K mg "renews" (top 17) ["order", "amount"] := ⟨f_renews, _, fun_mk (st := top 17) l_renews q_renews k_renews, (fun_mk (st := top 17) l_renews q_renews k_renews).binds fun _ _ _ _ _ _ us hl => match us, hl with | [_, _], _ => rfl, PySem.W.mg_of X G a_renews⟩
  let d_filled : Dv K mg "filled" (top 16) ["order", "amount"] := ⟨f_filled, _, fun_mk (st := top 16) l_filled q_filled k_filled, (fun_mk (st := top 16) l_filled q_filled k_filled).binds fun _ _ _ _ _ _ us hl => match us, hl with | [_, _], _ => rfl, PySem.W.mg_of X G a_filled⟩
  let d_ahead : Dv K mg "ahead" (top 18) ["side", "price", "other"] := ⟨f_ahead, _, fun_mk (st := top 18) l_ahead q_ahead k_ahead, (fun_mk (st := top 18) l_ahead q_ahead k_ahead).binds fun _ _ _ _ _ _ us hl => match us, hl with | [_, _, _], _ => rfl, PySem.W.mg_of X G a_ahead⟩
  let d_allows : Dv K mg "allows" (top 19) ["side", "limit", "price"] := ⟨f_allows, _, fun_mk (st := top 19) l_allows q_allows k_allows, (fun_mk (st := top 19) l_allows q_allows k_allows).binds fun _ _ _ _ _ _ us hl => match us, hl with | [_, _, _], _ => rfl, PySem.W.mg_of X G a_allows⟩
  let d_names_of : Dv K mg "names_of" (top 25) ["orders"] := ⟨f_names_of, _, fun_mk (st := top 25) l_names_of q_names_of k_names_of, (fun_mk (st := top 25) l_names_of q_names_of k_names_of).binds fun _ _ _ _ _ _ us hl => match us, hl with | [_], _ => rfl, PySem.W.mg_of X G a_names_of⟩
  let d_joining_place : Dv K mg "joining_place" (top 26) ["line", "order"] := ⟨f_joining_place, _, fun_mk (st := top 26) l_joining_place q_joining_place k_joining_place, (fun_mk (st := top 26) l_joining_place q_joining_place k_joining_place).binds fun _ _ _ _ _ _ us hl => match us, hl with | [_, _], _ => rfl, PySem.W.mg_of X G a_joining_place⟩
  let d_joined : Dv K mg "joined" (top 23) ["line", "order"] := ⟨f_joined, _, fun_mk (st := top 23) l_joined q_joined k_joined, (fun_mk (st := top 23) l_joined q_joined k_joined).binds fun _ _ _ _ _ _ us hl => match us, hl with | [_, _], _ => rfl, PySem.W.mg_of X G a_joined⟩
  let d_served : Dv K mg "served" (top 24) ["line", "amount"] := ⟨f_served, _, fun_mk (st := top 24) l_served q_served k_served, (fun_mk (st := top 24) l_served q_served k_served).binds fun _ _ _ _ _ _ us hl => match us, hl with | [_, _], _ => rfl, PySem.W.mg_of X G a_served⟩
  let d_looked_at : Dv K mg "looked_at" (top 29) ["order", "first", "last", "leap"] := ⟨f_looked_at, _, fun_mk (st := top 29) l_looked_at q_looked_at k_looked_at, (fun_mk (st := top 29) l_looked_at q_looked_at k_looked_at).binds fun _ _ _ _ _ _ us hl => match us, hl with | [_, _, _, _], _ => rfl, PySem.W.mg_of X G a_looked_at⟩
  let d_met : Dv K mg "met" (top 28) ["order", "line", "last", "leap"] := ⟨f_met, _, fun_mk (st := top 28) l_met q_met k_met, (fun_mk (st := top 28) l_met q_met k_met).binds fun _ _ _ _ _ _ us hl => match us, hl with | [_, _, _, _], _ => rfl, PySem.W.mg_of X G a_met⟩
  let d__law_cell_at : Dv K mg "_law_cell_at" (top 31) ["script", "k"] := ⟨f__law_cell_at, _, fun_mk (st := top 31) l__law_cell_at q__law_cell_at k__law_cell_at, (fun_mk (st := top 31) l__law_cell_at q__law_cell_at k__law_cell_at).binds fun _ _ _ _ _ _ us hl => match us, hl with | [_, _], _ => rfl, PySem.W.mg_of X G a__law_cell_at⟩
  let d__law_name : Dv K mg "_law_name" (top 32) ["k", "cell"] := ⟨f__law_name, _, fun_mk (st := top 32) l__law_name q__law_name k__law_name, (fun_mk (st := top 32) l__law_name q__law_name k__law_name).binds fun _ _ _ _ _ _ us hl => match us, hl with | [_, _], _ => rfl, PySem.W.mg_of X G a__law_name⟩
  let d__law_price : Dv K mg "_law_price" (top 33) ["cell", "base"] := ⟨f__law_price, _, fun_mk (st := top 33) l__law_price q__law_price k__law_price, (fun_mk (st := top 33) l__law_price q__law_price k__law_price).binds fun _ _ _ _ _ _ us hl => match us, hl with | [_, _], _ => rfl, PySem.W.mg_of X G a__law_price⟩
  let d__law_allows : Dv K mg "_law_allows" (top 34) ["side", "limit", "price"] := ⟨f__law_allows, _, fun_mk (st := top 34) l__law_allows q__law_allows k__law_allows, (fun_mk (st := top 34) l__law_allows q__law_allows k__law_allows).binds fun _ _ _ _ _ _ us hl => match us, hl with | [_, _, _], _ => rfl, PySem.W.mg_of X G a__law_allows⟩
  let d__law_incoming : Dv K mg "_law_incoming" (top 35) ["script", "side", "base"] := ⟨f__law_incoming, _, fun_mk (st := top 35) l__law_incoming q__law_incoming k__law_incoming, (fun_mk (st := top 35) l__law_incoming q__law_incoming k__law_incoming).binds fun _ _ _ _ _ _ us hl => match us, hl with | [_, _, _], _ => rfl, PySem.W.mg_of X G a__law_incoming⟩
  let d__law_sized : Dv K mg "_law_sized" (top 36) ["cell"] := ⟨f__law_sized, _, fun_mk (st := top 36) l__law_sized q__law_sized k__law_sized, (fun_mk (st := top 36) l__law_sized q__law_sized k__law_sized).binds fun _ _ _ _ _ _ us hl => match us, hl with | [_], _ => rfl, PySem.W.mg_of X G a__law_sized⟩
  let d__law_put : Dv K mg "_law_put" (top 37) ["line", "one"] := ⟨f__law_put, _, fun_mk (st := top 37) l__law_put q__law_put k__law_put, (fun_mk (st := top 37) l__law_put q__law_put k__law_put).binds fun _ _ _ _ _ _ us hl => match us, hl with | [_, _], _ => rfl, PySem.W.mg_of X G a__law_put⟩
  let d__law_line : Dv K mg "_law_line" (top 38) ["script", "side", "base"] := ⟨f__law_line, _, fun_mk (st := top 38) l__law_line q__law_line k__law_line, (fun_mk (st := top 38) l__law_line q__law_line k__law_line).binds fun _ _ _ _ _ _ us hl => match us, hl with | [_, _, _], _ => rfl, PySem.W.mg_of X G a__law_line⟩
  let d__law_leap : Dv K mg "_law_leap" (top 39) ["cell"] := ⟨f__law_leap, _, fun_mk (st := top 39) l__law_leap q__law_leap k__law_leap, (fun_mk (st := top 39) l__law_leap q__law_leap k__law_leap).binds fun _ _ _ _ _ _ us hl => match us, hl with | [_], _ => rfl, PySem.W.mg_of X G a__law_leap⟩
  let d__law_plain : Dv K mg "_law_plain" (top 40) ["found", "due"] := ⟨f__law_plain, _, fun_mk (st := top 40) l__law_plain q__law_plain k__law_plain, (fun_mk (st := top 40) l__law_plain q__law_plain k__law_plain).binds fun _ _ _ _ _ _ us hl => match us, hl with | [_, _], _ => rfl, PySem.W.mg_of X G a__law_plain⟩
  let d__law_row : Dv K mg "_law_row" (top 41) ["found", "due"] := ⟨f__law_row, _, fun_mk (st := top 41) l__law_row q__law_row k__law_row, (fun_mk (st := top 41) l__law_row q__law_row k__law_row).binds fun _ _ _ _ _ _ us hl => match us, hl with | [_, _], _ => rfl, PySem.W.mg_of X G a__law_row⟩
  let d__law_step_right : Dv K mg "_law_step_right" (top 43) ["order", "one", "step", "reach"] := ⟨f__law_step_right, _, fun_mk (st := top 43) l__law_step_right q__law_step_right k__law_step_right, (fun_mk (st := top 43) l__law_step_right q__law_step_right k__law_step_right).binds fun _ _ _ _ _ _ us hl => match us, hl with | [_, _, _, _], _ => rfl, PySem.W.mg_of X G a__law_step_right⟩
  let d__law_went : Dv K mg "_law_went" (top 44) ["order", "line", "steps", "reach"] := ⟨f__law_went, _, fun_mk (st := top 44) l__law_went q__law_went k__law_went, (fun_mk (st := top 44) l__law_went q__law_went k__law_went).binds fun _ _ _ _ _ _ us hl => match us, hl with | [_, _, _, _], _ => rfl, PySem.W.mg_of X G a__law_went⟩
  let d__law_stands : Dv K mg "_law_stands" (top 45) ["line", "went", "after"] := ⟨f__law_stands, _, fun_mk (st := top 45) l__law_stands q__law_stands k__law_stands, (fun_mk (st := top 45) l__law_stands q__law_stands k__law_stands).binds fun _ _ _ _ _ _ us hl => match us, hl with | [_, _, _], _ => rfl, PySem.W.mg_of X G a__law_stands⟩
  let d_law : Dv K mg "law" (top 46) ["script"] := ⟨_, _, fun_mk (st := top 46) l_law q_law k_law, (fun_mk (st := top 46) l_law q_law k_law).binds fun _ _ _ _ _ _ us hl => match us, hl with | [_], _ => rfl, PySem.W.mg_of X G a_law⟩
  refine ⟨d_law.fd, fun s v => .of_eq rfl, fun base _ _ => ?_⟩
  have G_checked_number := ok_checked_number (P := l.prog) (w := w) (base := base) d_checked_number B C R 
  have G_shown_anew := ok_shown_anew (P := l.prog) (w := w) (base := base) d_shown_anew B C R 
  have G_with_parts := ok_with_parts (P := l.prog) (w := w) (base := base) d_with_parts B C R 
  have G_fresh := ok_fresh (P := l.prog) (w := w) (base := base) d_fresh B C R d_with_parts G_with_parts d_shown_anew G_shown_anew
  have G_renews := ok_renews (P := l.prog) (w := w) (base := base) d_renews B C R 
  have G_filled := ok_filled (P := l.prog) (w := w) (base := base) d_filled B C R d_checked_number G_checked_number d_renews G_renews d_fresh G_fresh d_with_parts G_with_parts
  have G_ahead := ok_ahead (P := l.prog) (w := w) (base := base) d_ahead B C R 
  have G_allows := ok_allows (P := l.prog) (w := w) (base := base) d_allows B C R d_ahead G_ahead
  have G_names_of := ok_names_of (P := l.prog) (w := w) (base := base) d_names_of B C R 
  have G_joining_place := ok_joining_place (P := l.prog) (w := w) (base := base) d_joining_place B C R d_ahead G_ahead
  have G_joined := ok_joined (P := l.prog) (w := w) (base := base) d_joined B C R d_names_of G_names_of d_joining_place G_joining_place
  have G_served := ok_served (P := l.prog) (w := w) (base := base) d_served B C R d_filled G_filled d_renews G_renews d_joined G_joined
  have G_looked_at := ok_looked_at (P := l.prog) (w := w) (base := base) d_looked_at B C R d_allows G_allows
  have G_met := ok_met (P := l.prog) (w := w) (base := base) d_met B C R d_looked_at G_looked_at d_served G_served
  have G__law_cell_at := ok__law_cell_at (P := l.prog) (w := w) (base := base) d__law_cell_at B C R 
  have G__law_name := ok__law_name (P := l.prog) (w := w) (base := base) d__law_name B C R 
  have G__law_price := ok__law_price (P := l.prog) (w := w) (base := base) d__law_price B C R 
  have G__law_allows := ok__law_allows (P := l.prog) (w := w) (base := base) d__law_allows B C R 
  have G__law_incoming := ok__law_incoming (P := l.prog) (w := w) (base := base) d__law_incoming B C R d__law_price G__law_price d__law_cell_at G__law_cell_at d__law_name G__law_name
  have G__law_sized := ok__law_sized (P := l.prog) (w := w) (base := base) d__law_sized B C R 
  have G__law_put := ok__law_put (P := l.prog) (w := w) (base := base) d__law_put B C R d__law_allows G__law_allows
  have G__law_line := ok__law_line (P := l.prog) (w := w) (base := base) d__law_line B C R d__law_cell_at G__law_cell_at d__law_name G__law_name d__law_price G__law_price d__law_put G__law_put d__law_sized G__law_sized
  have G__law_leap := ok__law_leap (P := l.prog) (w := w) (base := base) d__law_leap B C R 
  have G__law_plain := ok__law_plain (P := l.prog) (w := w) (base := base) d__law_plain B C R 
  have G__law_row := ok__law_row (P := l.prog) (w := w) (base := base) d__law_row B C R d__law_plain G__law_plain
  have G__law_step_right := ok__law_step_right (P := l.prog) (w := w) (base := base) d__law_step_right B C R d__law_allows G__law_allows d__law_row G__law_row
  have G__law_went := ok__law_went (P := l.prog) (w := w) (base := base) d__law_went B C R d__law_step_right G__law_step_right
  have G__law_stands := ok__law_stands (P := l.prog) (w := w) (base := base) d__law_stands B C R d__law_row G__law_row
  exact ok_law d_law B C R d__law_cell_at G__law_cell_at d__law_incoming G__law_incoming d__law_line G__law_line d__law_price G__law_price d__law_leap G__law_leap d_met G_met d__law_went G__law_went d__law_stands G__law_stands d__law_plain G__law_plain
theorem walk {l : PySem.W.OpenLaw} {q : Program} {loose : List Str} {XP : (Str → Option Value) → Heap → Prop} {YP : World → Heap → Prop} {d : DefRec} {K : Params → PySem.W.Frag} (hn : l.most = some 63) (hdf : d.params.defaults = [])
    (hY : ∀ (w : World) (h : Heap), YP w h → (K w.params).In h)
    (F : ∀ (w : World) (mg : Str → Option Value) (fa : Addr) (h : Heap), (K w.params).In h → h.Ns mainGlobals mg → mg d.name = some (.ref fa) →
      ∃ fd : FuncData, (∀ (s : Shared) (u : Value), BindsTo s fd ⟨[u], []⟩ [("script", u)]) ∧ ∀ base : Heap, (K w.params).In base → base.Ns mainGlobals mg → FnOk l.prog w (K w.params) mg base CX0 6 fa fd ["script"] (sp_law (K w.params))) :
    PySem.W.WalkO q loose XP YP l.row.toRowW d [] (fun f vs => PySem.call f vs) :=
  L2.walk_of (n := 63) (k := 6) (x := "script") (CX := fun _ => CX0) (sp := fun w => sp_law (K w.params)) hn (by decide) hdf ⟨rfl, by decide, by decide⟩ hY F (fun _ _ a ns hl _ hS => ⟨a, ns, rfl, hS, hl, fun _ => rfl⟩) fun _ _ _ _ _ z => z
end K18
open PySem PySem.W PyProof.Rows
set_option maxRecDepth 100000 in
set_option maxHeartbeats 0 in
theorem PySem.Challenge.cw_bellbook_k18_sums_of_a_meeting_holds : PySem.Challenge.rw_bellbook_k18_sums_of_a_meeting.Holds := by
  w_on; o_law; k_head; (case hw => w_witness2)
  k_fill
  refine K18.walk (l := PySem.Challenge.rw_bellbook_k18_sums_of_a_meeting) rfl rfl (fun w h Y => PySem.W.kIn_of Y) ?F
  case F =>
    intro w mg fa h KX G hmg
    refine' K18.all_mk KX G hmg ?a_checked_number ?l_checked_number ?q_checked_number ?k_checked_number ?a_shown_anew ?l_shown_anew ?q_shown_anew ?k_shown_anew ?a_with_parts ?l_with_parts ?q_with_parts ?k_with_parts ?a_fresh ?l_fresh ?q_fresh ?k_fresh ?a_renews ?l_renews ?q_renews ?k_renews ?a_filled ?l_filled ?q_filled ?k_filled ?a_ahead ?l_ahead ?q_ahead ?k_ahead ?a_allows ?l_allows ?q_allows ?k_allows ?a_names_of ?l_names_of ?q_names_of ?k_names_of ?a_joining_place ?l_joining_place ?q_joining_place ?k_joining_place ?a_joined ?l_joined ?q_joined ?k_joined ?a_served ?l_served ?q_served ?k_served ?a_looked_at ?l_looked_at ?q_looked_at ?k_looked_at ?a_met ?l_met ?q_met ?k_met ?a__law_cell_at ?l__law_cell_at ?q__law_cell_at ?k__law_cell_at ?a__law_name ?l__law_name ?q__law_name ?k__law_name ?a__law_price ?l__law_price ?q__law_price ?k__law_price ?a__law_allows ?l__law_allows ?q__law_allows ?k__law_allows ?a__law_incoming ?l__law_incoming ?q__law_incoming ?k__law_incoming ?a__law_sized ?l__law_sized ?q__law_sized ?k__law_sized ?a__law_put ?l__law_put ?q__law_put ?k__law_put ?a__law_line ?l__law_line ?q__law_line ?k__law_line ?a__law_leap ?l__law_leap ?q__law_leap ?k__law_leap ?a__law_plain ?l__law_plain ?q__law_plain ?k__law_plain ?a__law_row ?l__law_row ?q__law_row ?k__law_row ?a__law_step_right ?l__law_step_right ?q__law_step_right ?k__law_step_right ?a__law_went ?l__law_went ?q__law_went ?k__law_went ?a__law_stands ?l__law_stands ?q__law_stands ?k__law_stands ?a_law ?l_law ?q_law ?k_law ?z_abs ?z_bool ?z_enumerate ?z_int ?z_isinstance ?z_len ?z_list ?z_min ?z_range ?z_str ?z_tuple ?u_LEFT ?u_NAME ?u_PEAK ?u_PRICE ?u_SHOWN ?u_SIDE ?u_WHO ?y_BadNumber ?y_NoOrder ?y_Twice ?w_x_BadNumber ?w_i_BadNumber_BadNumber ?w_i_BadNumber_NoOrder ?w_i_BadNumber_Twice ?w_x_NoOrder ?w_i_NoOrder_BadNumber ?w_i_NoOrder_NoOrder ?w_i_NoOrder_Twice ?w_x_Twice ?w_i_Twice_BadNumber ?w_i_Twice_NoOrder ?w_i_Twice_Twice ?v_BadNumber_cls ?v_BadNumber_ga ?v_BadNumber_gt ?v_BadNumber_at_ ?v_BadNumber_get ?v_BadNumber_tk ?v_BadNumber_obj ?v_BadNumber_exc ?v_NoOrder_cls ?v_NoOrder_ga ?v_NoOrder_gt ?v_NoOrder_at_ ?v_NoOrder_get ?v_NoOrder_tk ?v_NoOrder_obj ?v_NoOrder_exc ?v_Twice_cls ?v_Twice_ga ?v_Twice_gt ?v_Twice_at_ ?v_Twice_get ?v_Twice_tk ?v_Twice_obj ?v_Twice_exc
    (case a_checked_number => k_is)
    (case l_checked_number => k_is)
    (case q_checked_number => k_is)
    (case k_checked_number => k_is)
    (case a_shown_anew => k_is)
    (case l_shown_anew => k_is)
    (case q_shown_anew => k_is)
    (case k_shown_anew => k_is)
    (case a_with_parts => k_is)
    (case l_with_parts => k_is)
    (case q_with_parts => k_is)
    (case k_with_parts => k_is)
    (case a_fresh => k_is)
    (case l_fresh => k_is)
    (case q_fresh => k_is)
    (case k_fresh => k_is)
    (case a_renews => k_is)
    (case l_renews => k_is)
    (case q_renews => k_is)
    (case k_renews => k_is)
    (case a_filled => k_is)
    (case l_filled => k_is)
    (case q_filled => k_is)
    (case k_filled => k_is)
    (case a_ahead => k_is)
    (case l_ahead => k_is)
    (case q_ahead => k_is)
    (case k_ahead => k_is)
    (case a_allows => k_is)
    (case l_allows => k_is)
    (case q_allows => k_is)
    (case k_allows => k_is)
    (case a_names_of => k_is)
    (case l_names_of => k_is)
    (case q_names_of => k_is)
    (case k_names_of => k_is)
    (case a_joining_place => k_is)
    (case l_joining_place => k_is)
    (case q_joining_place => k_is)
    (case k_joining_place => k_is)
    (case a_joined => k_is)
    (case l_joined => k_is)
    (case q_joined => k_is)
    (case k_joined => k_is)
    (case a_served => k_is)
    (case l_served => k_is)
    (case q_served => k_is)
    (case k_served => k_is)
    (case a_looked_at => k_is)
    (case l_looked_at => k_is)
    (case q_looked_at => k_is)
    (case k_looked_at => k_is)
    (case a_met => k_is)
    (case l_met => k_is)
    (case q_met => k_is)
    (case k_met => k_is)
    (case a__law_cell_at => k_is)
    (case l__law_cell_at => k_is)
    (case q__law_cell_at => k_is)
    (case k__law_cell_at => k_is)
    (case a__law_name => k_is)
    (case l__law_name => k_is)
    (case q__law_name => k_is)
    (case k__law_name => k_is)
    (case a__law_price => k_is)
    (case l__law_price => k_is)
    (case q__law_price => k_is)
    (case k__law_price => k_is)
    (case a__law_allows => k_is)
    (case l__law_allows => k_is)
    (case q__law_allows => k_is)
    (case k__law_allows => k_is)
    (case a__law_incoming => k_is)
    (case l__law_incoming => k_is)
    (case q__law_incoming => k_is)
    (case k__law_incoming => k_is)
    (case a__law_sized => k_is)
    (case l__law_sized => k_is)
    (case q__law_sized => k_is)
    (case k__law_sized => k_is)
    (case a__law_put => k_is)
    (case l__law_put => k_is)
    (case q__law_put => k_is)
    (case k__law_put => k_is)
    (case a__law_line => k_is)
    (case l__law_line => k_is)
    (case q__law_line => k_is)
    (case k__law_line => k_is)
    (case a__law_leap => k_is)
    (case l__law_leap => k_is)
    (case q__law_leap => k_is)
    (case k__law_leap => k_is)
    (case a__law_plain => k_is)
    (case l__law_plain => k_is)
    (case q__law_plain => k_is)
    (case k__law_plain => k_is)
    (case a__law_row => k_is)
    (case l__law_row => k_is)
    (case q__law_row => k_is)
    (case k__law_row => k_is)
    (case a__law_step_right => k_is)
    (case l__law_step_right => k_is)
    (case q__law_step_right => k_is)
    (case k__law_step_right => k_is)
    (case a__law_went => k_is)
    (case l__law_went => k_is)
    (case q__law_went => k_is)
    (case k__law_went => k_is)
    (case a__law_stands => k_is)
    (case l__law_stands => k_is)
    (case q__law_stands => k_is)
    (case k__law_stands => k_is)
    (case a_law => k_is)
    (case l_law => k_is)
    (case q_law => k_is)
    (case k_law => k_is)
    (case z_abs => k_is)
    (case z_bool => k_is)
    (case z_enumerate => k_is)
    (case z_int => k_is)
    (case z_isinstance => k_is)
    (case z_len => k_is)
    (case z_list => k_is)
    (case z_min => k_is)
    (case z_range => k_is)
    (case z_str => k_is)
    (case z_tuple => k_is)
    (case u_LEFT => k_is)
    (case u_NAME => k_is)
    (case u_PEAK => k_is)
    (case u_PRICE => k_is)
    (case u_SHOWN => k_is)
    (case u_SIDE => k_is)
    (case u_WHO => k_is)
    (case y_BadNumber => k_is)
    (case y_NoOrder => k_is)
    (case y_Twice => k_is)
    (case w_x_BadNumber => k_exc)
    (case w_i_BadNumber_BadNumber => kit_is)
    (case w_i_BadNumber_NoOrder => kit_is)
    (case w_i_BadNumber_Twice => kit_is)
    (case w_x_NoOrder => k_exc)
    (case w_i_NoOrder_BadNumber => kit_is)
    (case w_i_NoOrder_NoOrder => kit_is)
    (case w_i_NoOrder_Twice => kit_is)
    (case w_x_Twice => k_exc)
    (case w_i_Twice_BadNumber => kit_is)
    (case w_i_Twice_NoOrder => kit_is)
    (case w_i_Twice_Twice => kit_is)
    (case v_BadNumber_cls => k_is)
    (case v_BadNumber_ga => k_is)
    (case v_BadNumber_gt => k_is)
    (case v_BadNumber_at_ => k_is)
    (case v_BadNumber_get => k_is)
    (case v_BadNumber_tk => k_is)
    (case v_BadNumber_obj => k_is)
    (case v_BadNumber_exc => k_is)
    (case v_NoOrder_cls => k_is)
    (case v_NoOrder_ga => k_is)
    (case v_NoOrder_gt => k_is)
    (case v_NoOrder_at_ => k_is)
    (case v_NoOrder_get => k_is)
    (case v_NoOrder_tk => k_is)
    (case v_NoOrder_obj => k_is)
    (case v_NoOrder_exc => k_is)
    (case v_Twice_cls => k_is)
    (case v_Twice_ga => k_is)
    (case v_Twice_gt => k_is)
    (case v_Twice_at_ => k_is)
    (case v_Twice_get => k_is)
    (case v_Twice_tk => k_is)
    (case v_Twice_obj => k_is)
    (case v_Twice_exc => k_is)

