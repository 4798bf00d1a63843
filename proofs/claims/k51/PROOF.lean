import PyProof.Rows.All
import Wide.All
import OpenK.AllK
import Wide.FinOn
import Lean
import PyProof.EqAt
import PyProof.EqKinds
import PyProof.TupleCall
import KE.KIsAll
import PyProof.ExcArgsOwn
import PyProof.ExcAttrAll.ValueError
import KE.KTryMore
import PyProof.NeKinds
import PyProof.Rows.CallKwBuiltin
import KE.KUnpack
import KE.KItemsList
import PyProof.Rows.SortWalk
import KE.KSortTup
import PyProof.Rows.SortStr
import KE.KDictList
import PySem.Challenge.RW_bellbook_k51_nets
set_option Elab.async false
set_option linter.all false
set_option maxRecDepth 100000
/-! THE HAND LAYER, for ints, bools, texts, own classes, LISTS and tuples (index, slices, in, append, pop ..), calls, loops. Paste it whole ahead of your own text; what your proof does not reach may be deleted. -/
namespace L2
open PySem PySem.Spec PyProof.Rows

/-- a key: an int or a str -/
abbrev Key := Sum Int Str
def keyIs : Key → Value → Bool
  | .inl k, v => Value.isInt k v
  | .inr x, v => Value.isStrOf x v
def keyH (w : World) : Key → Int
  | .inl k => hashInt k
  | .inr x => hashStr w x
theorem keyIs_shape : ∀ {k : Key} {v : Value}, keyIs k v = true → (∃ i t, k = Sum.inl i ∧ v = Value.int i t) ∨ (∃ x t, k = Sum.inr x ∧ v = Value.str x t)
  | .inl i, v, h => by
    obtain ⟨t, e⟩ := Value.isInt_shape (k := i) (v := v) h
    exact .inl ⟨i, t, rfl, e⟩
  | .inr x, v, h => by
    obtain ⟨t, e⟩ := Value.isStrOf_shape (x := x) (v := v) h
    exact .inr ⟨x, t, rfl, e⟩
theorem keyIs_int (i : Int) (t : Tok) : keyIs (.inl i) (.int i t) = true := by simp [keyIs, Value.isInt]
theorem keyIs_str (x : Str) (t : Tok) : keyIs (.inr x) (.str x t) = true := by simp [keyIs, Value.isStrOf]
theorem key_ll (a b : Int) : decide ((Sum.inl a : Key) = Sum.inl b) = (a == b) := by
  by_cases e : a = b
  · subst e; simp
  · have h : ¬ (Sum.inl a : Key) = Sum.inl b := fun q => e (Sum.inl.inj q)
    rw [decide_eq_false h]
    exact (beq_eq_false_iff_ne.mpr e).symm
theorem key_rr (a b : Str) : decide ((Sum.inr a : Key) = Sum.inr b) = decide (a = b) := by
  by_cases e : a = b
  · subst e; simp
  · have h : ¬ (Sum.inr a : Key) = Sum.inr b := fun q => e (Sum.inr.inj q)
    rw [decide_eq_false h, decide_eq_false e]
theorem key_lr (a : Int) (b : Str) : decide ((Sum.inl a : Key) = Sum.inr b) = false := decide_eq_false (fun q => nomatch q)
theorem key_rl (a : Str) (b : Int) : decide ((Sum.inr a : Key) = Sum.inl b) = false := decide_eq_false (fun q => nomatch q)

def mixKind (prog : Program) (w : World) : PySem.KeyKind prog w Key where
  is := keyIs
  hash := keyH w
  inj := fun v a b ha hb => by
    rcases keyIs_shape ha with ⟨i, t, rfl, rfl⟩ | ⟨x, t, rfl, rfl⟩
    · rcases keyIs_shape hb with ⟨j, u, rfl, e⟩ | ⟨y, u, rfl, e⟩
      · injection e with e1 _; rw [e1]
      · exact nomatch e
    · rcases keyIs_shape hb with ⟨j, u, rfl, e⟩ | ⟨y, u, rfl, e⟩
      · exact nomatch e
      · injection e with e1 _; rw [e1]
  byValue := fun k v h => by
    rcases keyIs_shape h with ⟨i, t, rfl, rfl⟩ | ⟨x, t, rfl, rfl⟩ <;> rfl
  pyHash := fun hv h => by
    rcases keyIs_shape hv with ⟨i, t, rfl, rfl⟩ | ⟨x, t, rfl, rfl⟩
    · exact wpAny_pyHash_int h
    · exact wpAny_pyHash_str h
  eqBool := fun hu hv h => by
    rcases keyIs_shape hu with ⟨i, t, rfl, rfl⟩ | ⟨x, t, rfl, rfl⟩
    · rcases keyIs_shape hv with ⟨j, u, rfl, rfl⟩ | ⟨y, u, rfl, rfl⟩
      · rw [key_ll] at h; exact wpAny_eqBool_int h
      · rw [key_lr] at h; exact SeqAt.EqAt.int_str i t y u _ _ _ _ h
    · rcases keyIs_shape hv with ⟨j, u, rfl, rfl⟩ | ⟨y, u, rfl, rfl⟩
      · rw [key_rl] at h; exact SeqAt.EqAt.str_int x t j u _ _ _ _ h
      · rw [key_rr] at h; exact wpAny_eqBool_str h
  «strs» := fun k x t v h => by
    rcases keyIs_shape h with ⟨i, u, rfl, e⟩ | ⟨y, u, rfl, e⟩
    · exact nomatch e
    · injection e with e1 _
      subst e1
      cases v <;> rfl

theorem mixKind_is (prog : Program) (w : World) (k : Key) (v : Value) : (mixKind prog w).is k v = keyIs k v := rfl
theorem mixKind_int (prog : Program) (w : World) (i : Int) (t : Tok) : (mixKind prog w).is (.inl i) (.int i t) = true := keyIs_int i t
theorem mixKind_str (prog : Program) (w : World) (x : Str) (t : Tok) : (mixKind prog w).is (.inr x) (.str x t) = true := keyIs_str x t
end L2

namespace L2
open PySem PySem.Spec PyProof.Rows

/-- a value, without the heap -/
inductive V where
  | non | bl (b : Bool) | int (i : Int) | str (x : Str) | byt (b : Array UInt8) | flt (b : UInt64) | ref (a : Addr) | ty (n : String)
  deriving DecidableEq

def RelV : V → Value → Prop
  | .non, u => u = Value.none
  | .bl b, u => u = Value.bool b
  | .int i, u => ∃ t, u = Value.int i t
  | .str x, u => ∃ t, u = Value.str x t
  | .byt b, u => ∃ t, u = Value.bytes b t
  | .flt b, u => ∃ t, u = Value.float b t
  | .ref a, u => u = Value.ref a
  | .ty n, u => u = Value.type n

abbrev Vals : List V → List Value → Prop := Paired RelV
theorem Vals.length {xs : List V} {us : List Value} (r : Vals xs us) : xs.length = us.length := Paired.length r
theorem Vals.get : ∀ {xs : List V} {us : List Value} {i : Nat} {x : V}, Vals xs us → xs[i]? = some x → ∃ u, us[i]? = some u ∧ RelV x u
  | _, _, _, _, .nil, e => by simp at e
  | _, _, 0, _, .cons r _, e => by simp at e; subst e; exact ⟨_, rfl, r⟩
  | _, _, i + 1, x, .cons _ t, e => by
    obtain ⟨u, h1, h2⟩ := Vals.get (i := i) (x := x) t (by simpa using e)
    exact ⟨u, by simpa using h1, h2⟩
theorem Vals.set {x : V} {u : Value} (r : RelV x u) : ∀ {xs : List V} {us : List Value} (i : Nat), Vals xs us → Vals (xs.set i x) (us.set i u)
  | _, _, _, .nil => .nil
  | _, _, 0, .cons _ t => .cons r t
  | _, _, i + 1, .cons q t => .cons q (Vals.set r i t)
theorem Vals.append : ∀ {xs ys : List V} {us ws : List Value}, Vals xs us → Vals ys ws → Vals (xs ++ ys) (us ++ ws)
  | _, _, _, _, .nil, s => s
  | _, _, _, _, .cons r t, s => .cons r (Vals.append t s)
theorem Vals.take : ∀ {xs : List V} {us : List Value} (n : Nat), Vals xs us → Vals (xs.take n) (us.take n)
  | _, _, 0, _ => .nil
  | _, _, _ + 1, .nil => .nil
  | _, _, n + 1, .cons r t => .cons r (Vals.take n t)
theorem Vals.drop : ∀ {xs : List V} {us : List Value} (n : Nat), Vals xs us → Vals (xs.drop n) (us.drop n)
  | _, _, 0, r => r
  | _, _, _ + 1, .nil => .nil
  | _, _, n + 1, .cons _ t => Vals.drop n t
theorem Vals.none_of : ∀ {xs : List V} {us : List Value} {i : Nat}, Vals xs us → xs[i]? = none → us[i]? = none := fun {xs us i} r e => by
  have h1 := r.length
  have h2 : xs.length ≤ i := List.getElem?_eq_none_iff.mp e
  exact List.getElem?_eq_none_iff.mpr (by omega)

def RelO : Option V → Option Value → Prop
  | some v, some u => RelV v u
  | none, none => True
  | _, _ => False
def KV {κ : Type} : List (κ × V) → List (κ × Value) → Prop := Paired fun (p : κ × V) (q : κ × Value) => p.1 = q.1 ∧ RelV p.2 q.2

/-- a key of a dict (00_mix): an int or a text -/
def kV : Key → V
  | .inl i => .int i
  | .inr x => .str x

/-- what stands at a tracked address -/
inductive HO where
  /-- a list -/
  | lst (xs : List V)
  /-- a tuple (never changes) -/
  | tup (xs : List V)
  /-- a dict whose keys are ints and texts; one whose keys are tuples of ints and texts (the empty one is both) -/
  | dK (kvs : List (Key × V)) | dT (kvs : List (List Key × V))
  /-- a set of ints: its members, its size -/
  | set (S : Int → Bool) (n : Nat)
  /-- an instance of the class at C, its dict at dx, its attributes -/
  | ins (C dx : Addr) (fs : List (Str × V))
  /-- the dict of the instance at x -/
  | own (x : Addr)
  /-- the dict of an exception -/
  | xd (fs : List (Str × V))
  /-- a bound method, f of x -/
  | met (f x : Addr)
  /-- a range object lo, lo + 1, .. below hi -/
  | rng (lo hi : Int)
  /-- a thing that is known to the object (the script; a dict while a loop walks it): read, never written while it is so -/
  | frz (o : Obj) (u : HO)
  /-- a code object's table -/
  | tbl (ps : Array Value)
  /-- any other thing, by what is true of its one object (a def of one's own: SetO a S n := HO.ext fun h => ..) -/
  | ext (φ : Heap → Prop)

abbrev Hp := Addr → Option HO
def upd (H : Hp) (a : Addr) (o : HO) : Hp := fun b => if b = a then some o else H b
theorem upd_same {H : Hp} {a : Addr} {o : HO} : upd H a o a = some o := by unfold upd; rw [if_pos rfl]
theorem upd_ne {H : Hp} {a b : Addr} {o : HO} (h : b ≠ a) : upd H a o b = H b := by unfold upd; rw [if_neg h]
theorem upd_upd {H : Hp} {a : Addr} {o u : HO} : upd (upd H a o) a u = upd H a u := by
  funext b; unfold upd; split <;> rfl
/-- two objects of different content stand apart -/
theorem ne_of {H : Hp} {a b : Addr} {o u : HO} (h : H a = some o) (h' : H b = some u) (d : o ≠ u) : a ≠ b := by
  intro e; subst e; rw [h] at h'; exact d (Option.some.inj h')
theorem ne_of_none {H : Hp} {a b : Addr} {o : HO} (h : H a = some o) (h' : H b = none) : a ≠ b := by
  intro e; subst e; rw [h] at h'; cases h'

section
variable (P : Program) (w : World)
def ObjOk (H : Hp) (h : Heap) (a : Addr) : HO → Prop
  | .lst xs => xs.length ≤ sizeLine ∧ ∃ (its : List Value) (n : Nat), Vals xs its ∧ h.get? a = some { cls := .type "list", data := .seq its.toArray n }
  | .tup xs => xs.length ≤ sizeLine ∧ ∃ its : List Value, Vals xs its ∧ IsTup h a its.toArray
  | .dK kvs => kvs.length ≤ sizeLine ∧ (a == sysModules) = false ∧ ∃ vs, KV kvs vs ∧ h.DictOf (mixKind P w) a vs
  | .dT kvs => kvs.length ≤ sizeLine ∧ (a == sysModules) = false ∧ ∃ xs : List (List Key × Addr × Value),
      Paired (fun (p : List Key × V) (q : List Key × Addr × Value) => p.1 = q.1 ∧ H q.2.1 = some (.tup (p.1.map kV)) ∧ RelV p.2 q.2.2) kvs xs ∧
      ∃ o es ep, h.get? a = some o ∧ o.ExactDict ∧ o.data = .dict es ep ∧ es.toList = xs.map (entryOfKey (tupleKind (mixKind P w))) ∧ (xs.map (·.1)).Nodup
  | .set S n => h.SetOf (intKind P w) a S n
  | .ins C dx fs => H dx = some (.own a) ∧ fs.length ≤ 1000 ∧ dx ≠ a ∧ h.get? a = some (PySem.W.instObj C dx) ∧
      ∃ mA, h.Ns1 dx mA ∧ (∀ f, RelO (fs.lookup f) (mA f)) ∧ PySem.Within mA (fs.map (·.1))
  | .own _ => ∃ o, h.get? a = some o
  | .xd fs => ∃ mA, h.Ns1 a mA ∧ ∀ f, RelO (fs.lookup f) (mA f)
  | .rng lo hi => ∃ t u v, h.get? a = some { cls := .type "range", data := .fields #[.int lo t, .int hi u, .int 1 v] }
  | .frz o u => h.get? a = some o ∧ ObjOk H h a u
  | .tbl ps => h.get? a = some { cls := .none, data := .fields ps }
  | .met f x => h.get? a = some (PySem.W.methodObj (.ref f) (.ref x))
  | .ext φ => φ h ∧ (∃ o, h.get? a = some o) ∧ ∀ h1 h2 : Heap, φ h1 → (∀ o, h1.get? a = some o → h2.get? a = some o) → φ h2
/-- the abstract heap is held -/
def HOk (H : Hp) (h : Heap) : Prop := ∀ a o, H a = some o → ObjOk P w H h a o
end

section
variable {P : Program} {w : World} {H H' : Hp} {h h' : Heap} {a : Addr} {o : HO}
theorem ObjOk.lt (x : ObjOk P w H h a o) : a < h.objs.size := by
  cases o with
  | lst xs => obtain ⟨_, _, _, _, e⟩ := x; exact Heap.lt_size e
  | tup xs => obtain ⟨_, _, _, p⟩ := x; exact p.lt
  | dK kvs => obtain ⟨_, _, _, _, o, _, _, e, _⟩ := x; exact Heap.lt_size e
  | dT kvs => obtain ⟨_, _, _, _, o, _, _, e, _⟩ := x; exact Heap.lt_size e
  | set S n => obtain ⟨o, _, _, _, e, _⟩ := x; exact Heap.lt_size e
  | ins C dx fs => obtain ⟨_, _, _, e, _⟩ := x; exact Heap.lt_size e
  | own y => obtain ⟨_, e⟩ := x; exact Heap.lt_size e
  | xd fs => obtain ⟨_, ⟨_, _, _, e, _⟩, _⟩ := x; exact Heap.lt_size e
  | rng lo hi => obtain ⟨_, _, _, e⟩ := x; exact Heap.lt_size e
  | frz ob u => obtain ⟨e, _⟩ := x; exact Heap.lt_size e
  | tbl ps => exact Heap.lt_size (show h.get? a = some _ from x)
  | met f y => exact Heap.lt_size (show h.get? a = some _ from x)
  | ext φ => obtain ⟨_, ⟨_, e⟩, _⟩ := x; exact Heap.lt_size e
theorem Paired.mapP {α β : Type} {F G : α → β → Prop} : ∀ {l₁ : List α} {l₂ : List β}, Paired F l₁ l₂ → (∀ a b, F a b → G a b) → Paired G l₁ l₂
  | _, _, .nil, _ => .nil
  | _, _, .cons r t, f => .cons (f _ _ r) (Paired.mapP t f)
theorem Paired.imp' {α β : Type} {F G : α → β → Prop} (f : ∀ a b, F a b → G a b) {l₁ : List α} {l₂ : List β} (r : Paired F l₁ l₂) : Paired G l₁ l₂ := Paired.mapP r f
/-- what an object's description leans on: its own object, its own dict, the tuples -/
theorem ObjOk.stay (x : ObjOk P w H h a o) (k : ∀ b u, (b = a ∨ H b = some (.own a)) → h.get? b = some u → h'.get? b = some u)
    (ho : ∀ b, H b = some (.own a) → H' b = some (.own a)) (ht : ∀ b xs, H b = some (.tup xs) → H' b = some (.tup xs)) : ObjOk P w H' h' a o := by
  induction o with
  | lst xs => obtain ⟨z, its, n, r, e⟩ := x; exact ⟨z, its, n, r, k _ _ (.inl rfl) e⟩
  | tup xs => obtain ⟨z, its, r, ob, e, c⟩ := x; exact ⟨z, its, r, ob, k _ _ (.inl rfl) e, c⟩
  | dK kvs => obtain ⟨z, y, vs, r, ob, es, ep, e, c⟩ := x; exact ⟨z, y, vs, r, ob, es, ep, k _ _ (.inl rfl) e, c⟩
  | dT kvs =>
    obtain ⟨z, y, xs, r, ob, es, ep, e, c⟩ := x
    exact ⟨z, y, xs, Paired.mapP r fun p q z => ⟨z.1, ht _ _ z.2.1, z.2.2⟩, ob, es, ep, k _ _ (.inl rfl) e, c⟩
  | set S n => obtain ⟨ob, es, ep, t, e, c⟩ := x; exact ⟨ob, es, ep, t, k _ _ (.inl rfl) e, c⟩
  | ins C dx fs =>
    obtain ⟨d, z, ne, e, mA, ⟨od, es, ep, e2, c⟩, r⟩ := x
    exact ⟨ho _ d, z, ne, k _ _ (.inl rfl) e, mA, ⟨od, es, ep, k _ _ (.inr d) e2, c⟩, r⟩
  | own y => obtain ⟨ob, e⟩ := x; exact ⟨ob, k _ _ (.inl rfl) e⟩
  | xd fs => obtain ⟨mA, ⟨od, es, ep, e, c⟩, r⟩ := x; exact ⟨mA, ⟨od, es, ep, k _ _ (.inl rfl) e, c⟩, r⟩
  | rng lo hi => obtain ⟨t, u, v, e⟩ := x; exact ⟨t, u, v, k _ _ (.inl rfl) e⟩
  | frz ob u ih => obtain ⟨e, q⟩ := x; exact ⟨k _ _ (.inl rfl) e, ih q⟩
  | tbl ps =>
    have e : h.get? a = some { cls := .none, data := .fields ps } := x
    show h'.get? a = some { cls := .none, data := .fields ps }
    exact k a _ (.inl rfl) e
  | met f y =>
    have e : h.get? a = some (PySem.W.methodObj (.ref f) (.ref y)) := x
    show h'.get? a = some (PySem.W.methodObj (.ref f) (.ref y))
    exact k a _ (.inl rfl) e
  | ext φ => obtain ⟨p, ⟨o, e⟩, st⟩ := x; exact ⟨st _ _ p fun o q => k _ _ (.inl rfl) q, ⟨o, k _ _ (.inl rfl) e⟩, st⟩
theorem HOk.lt (x : HOk P w H h) (e : H a = some o) : a < h.objs.size := (x a o e).lt
theorem HOk.fresh (x : HOk P w H h) (e : h.objs.size ≤ a) : H a = none := by
  cases q : H a with
  | none => rfl
  | some u => exact absurd (Nat.lt_of_lt_of_le (x.lt q) e) (Nat.lt_irrefl _)
/-- every object of the heap is kept -/
theorem HOk.kept (x : HOk P w H h) (k : ∀ b u, h.get? b = some u → h'.get? b = some u) : HOk P w H h' := fun a o e =>
  (x a o e).stay (fun b u _ q => k b u q) (fun _ q => q) fun _ _ q => q
/-- a new object is laid and tracked -/
theorem HOk.laid (x : HOk P w H h) (k : ∀ b u, h.get? b = some u → h'.get? b = some u) (hp : h.objs.size ≤ a) (new : ObjOk P w (upd H a o) h' a o) : HOk P w (upd H a o) h' := fun b u e => by
  have hn := x.fresh hp
  by_cases hb : b = a
  · subst hb; rw [upd_same] at e; cases e; exact new
  · rw [upd_ne hb] at e
    exact (x b u e).stay (fun c v _ q => k c v q) (fun c q => by rw [upd_ne (ne_of_none q hn)]; exact q) fun c xs q => by rw [upd_ne (ne_of_none q hn)]; exact q
end

/-- what may be read as u: it is u, or a known u -/
def Rd (H : Hp) (a : Addr) (u : HO) : Prop := H a = some u ∨ ∃ o, H a = some (.frz o u)
theorem Rd.of {H : Hp} {a : Addr} {u : HO} (h : H a = some u) : Rd H a u := .inl h
theorem Rd.ok {P : Program} {w : World} {H : Hp} {h : Heap} {a : Addr} {u : HO} (r : Rd H a u) (x : HOk P w H h) : ObjOk P w H h a u := by
  rcases r with r | ⟨o, r⟩
  · exact x a u r
  · obtain ⟨_, q⟩ := x a _ r
    exact q
/-- what may be written -/
def Mut : Option HO → Prop
  | some (.lst _) => True
  | some (.dK _) => True
  | some (.dT _) => True
  | some (.set _ _) => True
  | some (.ins _ _ _) => True
  | some (.ext _) => True
  | _ => False
section
variable {P : Program} {w : World} {H : Hp} {h h' : Heap} {x e : Addr} {o' : HO}
/-- the object at e is changed: x itself, or the dict of the instance x -/
theorem HOk.write (ok : HOk P w H h) (mu : Mut (H x)) (he : e = x ∨ H e = some (.own x)) (k : ∀ b u, b ≠ e → h.get? b = some u → h'.get? b = some u) (heo : ∃ u, h'.get? e = some u)
    (new : ObjOk P w (upd H x o') h' x o') : HOk P w (upd H x o') h' := fun b u q => by
  have nown : ∀ c y, H c = some (.own y) → c ≠ x := fun c y r z => by subst z; rw [r] at mu; exact mu
  have ntup : ∀ c xs, H c = some (.tup xs) → c ≠ x := fun c xs r z => by subst z; rw [r] at mu; exact mu
  by_cases hb : b = x
  · subst hb; rw [upd_same] at q; cases q; exact new
  · rw [upd_ne hb] at q
    by_cases hbe : b = e
    · have q' : H b = some (.own x) := by
        rcases he with z | z
        · exact absurd (hbe.trans z) hb
        · rw [hbe]; exact z
      rw [q] at q'; cases q'
      obtain ⟨v, hv⟩ := heo
      exact ⟨v, by rw [hbe]; exact hv⟩
    · refine (ok b u q).stay (fun c v hc r => k c v ?_ r) (fun c r => by rw [upd_ne (nown c b r)]; exact r) fun c xs r => by rw [upd_ne (ntup c xs r)]; exact r
      rcases hc with rfl | hc
      · exact hbe
      · rintro rfl
        rcases he with z | z
        · exact nown c b hc z
        · rw [hc] at z; cases z; exact hb rfl
end

/-! ### kept unless tracked; of the frames at fs (the callers') the slots may change (an exception that passes writes there); of the records at ex (iterators) nothing is said -/
structure Un (fs ex : List Addr) (H H' : Hp) (h h' : Heap) : Prop where
  keep : ∀ b o, h.get? b = some o → H b = none → b ∉ fs → b ∉ ex → h'.get? b = some o
  slot : ∀ b o, h.get? b = some o → H b = none → b ∈ fs → b ∉ ex → ∃ sl, h'.get? b = some { o with slots := sl }
  free : ∀ b o, h.get? b = some o → H b = none → b ∉ ex → H' b = none
  there : ∀ b o, h.get? b = some o → b ∉ ex → ∃ o', h'.get? b = some o'
  tups : ∀ b xs, H b = some (.tup xs) → H' b = some (.tup xs)
  frzs : ∀ b o u, H b = some (.frz o u) → H' b = some (.frz o u)
  tbls : ∀ b ps, H b = some (.tbl ps) → ∃ more, H' b = some (.tbl (ps ++ more))
section
variable {fs fs' ex ex' : List Addr} {H H1 H2 : Hp} {h h1 h2 h' : Heap} {a x e : Addr} {o : HO}
theorem Un.any (u : Un fs ex H H1 h h1) {b : Addr} {ob : Obj} (q : h.get? b = some ob) (n : H b = none) (hx : b ∉ ex) : ∃ sl, h1.get? b = some { ob with slots := sl } := by
  by_cases hb : b ∈ fs
  · exact u.slot b ob q n hb hx
  · exact ⟨ob.slots, u.keep b ob q n hb hx⟩
theorem Un.trans (a : Un fs ex H H1 h h1) (b : Un fs ex H1 H2 h1 h2) : Un fs ex H H2 h h2 where
  keep := fun c ob q n hc hx => b.keep c ob (a.keep c ob q n hc hx) (a.free c ob q n hx) hc hx
  slot := fun c ob q n hc hx => by
    obtain ⟨sl, e1⟩ := a.slot c ob q n hc hx
    obtain ⟨sl', e2⟩ := b.slot c _ e1 (a.free c ob q n hx) hc hx
    exact ⟨sl', e2⟩
  free := fun c ob q n hx => by
    obtain ⟨o', e1⟩ := a.there c ob q hx
    exact b.free c o' e1 (a.free c ob q n hx) hx
  there := fun c ob q hx => by
    obtain ⟨o', e1⟩ := a.there c ob q hx
    exact b.there c o' e1 hx
  tups := fun c xs q => b.tups c xs (a.tups c xs q)
  frzs := fun c ob xs q => b.frzs c ob xs (a.frzs c ob xs q)
  tbls := fun c ps q => by
    obtain ⟨m1, e1⟩ := a.tbls c ps q
    obtain ⟨m2, e2⟩ := b.tbls c _ e1
    exact ⟨m1 ++ m2, by rw [e2, Array.append_assoc]⟩
theorem Un.kept (k : ∀ b u, h.get? b = some u → h'.get? b = some u) : Un fs ex H H h h' :=
  ⟨fun b ob q _ _ _ => k b ob q, fun b ob q _ _ _ => ⟨ob.slots, k b ob q⟩, fun _ _ _ n _ => n, fun b ob q _ => ⟨ob, k b ob q⟩, fun _ _ q => q, fun _ _ _ q => q, fun _ ps q => ⟨#[], by rw [q]; simp⟩⟩
theorem Un.refl : Un fs ex H H h h := Un.kept fun _ _ q => q
theorem Un.laid (k : ∀ b u, h.get? b = some u → h'.get? b = some u) (hp : h.objs.size ≤ a) (hn : H a = none) : Un fs ex H (upd H a o) h h' where
  keep := fun b u q _ _ _ => k b u q
  slot := fun b u q _ _ _ => ⟨u.slots, k b u q⟩
  free := fun b u q n _ => by rw [upd_ne (Nat.ne_of_lt (Nat.lt_of_lt_of_le (Heap.lt_size q) hp))]; exact n
  there := fun b u q _ => ⟨u, k b u q⟩
  tups := fun b xs q => by rw [upd_ne (ne_of_none q hn)]; exact q
  frzs := fun b u xs q => by rw [upd_ne (ne_of_none q hn)]; exact q
  tbls := fun b ps q => ⟨#[], by rw [upd_ne (ne_of_none q hn), q]; simp⟩
theorem Un.write (mu : Mut (H x)) (he : e = x ∨ H e = some (.own x)) (k : ∀ b u, b ≠ e → h.get? b = some u → h'.get? b = some u) (heo : ∃ u, h'.get? e = some u) : Un fs ex H (upd H x o) h h' := by
  have hx : ∀ b, H b = none → b ≠ x := fun b n z => by subst z; rw [n] at mu; exact mu
  have hb : ∀ b, H b = none → b ≠ e := fun b n z => by
    subst z
    rcases he with r | r
    · exact hx b n r
    · rw [n] at r; cases r
  have hm : ∀ b u, H b = some u → ¬ Mut (some u) → b ≠ x := fun b u q nm z => by subst z; rw [q] at mu; exact nm mu
  refine ⟨fun b u q n _ _ => k b u (hb b n) q, fun b u q n _ _ => ⟨u.slots, k b u (hb b n) q⟩, fun b u q n _ => by rw [upd_ne (hx b n)]; exact n, fun b u q _ => ?_,
    fun b xs q => by rw [upd_ne (hm b _ q fun z => z)]; exact q, fun b u xs q => by rw [upd_ne (hm b _ q fun z => z)]; exact q, fun b ps q => ⟨#[], by rw [upd_ne (hm b _ q fun z => z), q]; simp⟩⟩
  by_cases hbe : b = e
  · subst hbe; exact heo
  · exact ⟨u, k b u hbe q⟩
theorem Un.mono (u : Un fs ex H H1 h h1) (hs : ∀ b ∈ fs, b ∈ fs') (hx : ∀ b ∈ ex, b ∈ ex') : Un fs' ex' H H1 h h1 :=
  ⟨fun b ob q n hb he => u.keep b ob q n (fun z => hb (hs b z)) fun z => he (hx b z), fun _ _ q n _ he => u.any q n fun z => he (hx _ z), fun b ob q n he => u.free b ob q n fun z => he (hx b z), fun b ob q he => u.there b ob q fun z => he (hx b z), u.tups, u.frzs, u.tbls⟩
end

/-! ### the heap without what is tracked -/
def trk (h : Heap) (H : Hp) : List Addr := (List.range h.objs.size).filter fun a => (H a).isSome
def hidT (h : Heap) (H : Hp) : Heap := PySem.W.hideAll h (trk h H)
theorem hidT_size (h : Heap) (H : Hp) : (hidT h H).objs.size = h.objs.size := PySem.W.hideAll_size _ _
theorem hidT_get {h : Heap} {H : Hp} {b : Addr} {o : Obj} (e : h.get? b = some o) (n : H b = none) : (hidT h H).get? b = some o :=
  PySem.W.hideAll_get _ e fun hm => by
    have q : (H b).isSome = true := (List.mem_filter.mp hm).2
    rw [n] at q; simp at q
theorem of_hidT {h : Heap} {H : Hp} {b : Addr} {o : Obj} (e : (hidT h H).get? b = some o) : h.get? b = some o ∧ H b = none := by
  have e' : h.get? b = some o := PySem.W.of_hideAll (trk h H) e
  refine ⟨e', ?_⟩
  cases q : H b with
  | none => rfl
  | some x =>
    have hm : b ∈ trk h H := List.mem_filter.mpr ⟨List.mem_range.mpr (Heap.lt_size e'), by simp [q]⟩
    have z : (hidT h H).get? b = none := PySem.W.hideAll_none (trk h H) hm
    rw [z] at e; cases e

/-! ### OpenK's ledger, filled with every new object but one -/
def allNews (g h : Heap) (L : Addr) : List (Addr × Obj) := (List.range h.objs.size).filterMap fun a => if a = L ∨ (g.get? a).isSome = true then none else (h.get? a).map fun o => (a, o)
theorem mem_allNews {g h : Heap} {L a : Addr} {o : Obj} (h1 : a ≠ L) (h2 : g.get? a = none) (h3 : h.get? a = some o) : (a, o) ∈ allNews g h L :=
  List.mem_filterMap.mpr ⟨a, List.mem_range.mpr (Heap.lt_size h3), by simp [h1, h2, h3]⟩
theorem of_mem_allNews {g h : Heap} {L : Addr} {p : Addr × Obj} (hp : p ∈ allNews g h L) : p.1 ≠ L ∧ g.get? p.1 = none ∧ h.get? p.1 = some p.2 := by
  obtain ⟨b, _, e⟩ := List.mem_filterMap.mp hp
  split at e
  · cases e
  · rename_i hn
    cases q : h.get? b with
    | none => rw [q] at e; simp at e
    | some u =>
      rw [q] at e
      simp only [Option.map_some, Option.some.injEq] at e
      subst e
      refine ⟨fun z => hn (.inl z), ?_, q⟩
      show g.get? b = none
      cases r : g.get? b with
      | none => rfl
      | some v => exact (hn (.inr (by simp [r]))).elim
def rest (g h : Heap) (L d : Addr) : List (Addr × Obj) := (allNews g h L).filter fun p => decide (p.1 ≠ d)
theorem rest_ne {g h : Heap} {L d : Addr} : ∀ p ∈ rest g h L d, p.1 ≠ d := fun p hp => of_decide_eq_true (List.mem_filter.mp hp).2
theorem mem_rest {g h : Heap} {L d a : Addr} {o : Obj} (h1 : a ≠ L) (h2 : g.get? a = none) (h3 : h.get? a = some o) (h4 : a ≠ d) : (a, o) ∈ rest g h L d :=
  List.mem_filter.mpr ⟨mem_allNews h1 h2 h3, decide_eq_true h4⟩
theorem news_all {g h : Heap} {L : Addr} : News g L h (allNews g h L) := fun p hp => let ⟨a, b, c⟩ := of_mem_allNews hp; ⟨c, a, b⟩
theorem news_at {g h : Heap} {L d : Addr} {o : Obj} (h1 : d ≠ L) (h2 : g.get? d = none) (h3 : h.get? d = some o) : News g L h ((d, o) :: rest g h L d) := fun p hp => by
  rcases List.mem_cons.mp hp with rfl | hp
  · exact ⟨h3, h1, h2⟩
  · exact news_all p (List.mem_filter.mp hp).1
/-- behind a rule that changed d alone: all else but the frame is kept -/
theorem kept_of_news {g h h' : Heap} {L d : Addr} {m : Str → Option Value} (k : ∀ b o, g.get? b = some o → h.get? b = some o) (F : Fr g L h' m) (N : News g L h' (rest g h L d)) :
    ∀ b o, b ≠ L → b ≠ d → h.get? b = some o → h'.get? b = some o := fun b o h1 h2 e => by
  cases q : g.get? b with
  | some u =>
    have := k b u q
    rw [e] at this; cases this
    exact F.keep b _ q
  | none => exact (N (b, o) (mem_rest h1 q e h2)).1
end L2

namespace L2
open PySem PySem.Spec PyProof.Rows

/-- the module's facts, over the base: the heap at the law's entry without what is tracked there -/
structure Mod (K : PySem.W.Frag) (mg : Str → Option Value) (base : Heap) : Prop where
  kin : K.In base
  glob : base.Ns mainGlobals mg
  blt : ∃ mb, base.Ns builtinsNs mb ∧ ∀ x : Str, x ≠ "__name__" → mb x = bootBuiltins x
  nolimit : base.NoLimit

/-- the context: a def's body (or a comprehension's block) running. base: fixed through the whole law; s₀, H₀: the entry; outer: the frames whose slots others may change (a def's callers); stack: all frames that run;
   ex: iterators that were made ahead of the entry and are walked here (a comprehension's); fn: the names whose cells were made at the entry (a def: all; a comprehension's block: its own); calm: not within an except suite; pn: pins that every state bears; xe: what is wanted of an exception that leaves the code -/
structure Cx where
  prog : Program
  w : World
  K : PySem.W.Frag
  mg : Str → Option Value
  base : Heap
  A : Around
  N : List Str
  s₀ : Shared
  H₀ : Hp
  env : Env
  outer : List Env
  stack : List Env
  ex : List Addr
  fn : Str → Bool
  calm : Bool
  pn : List (Addr × Obj)
  xe : Value → Shared → Prop
/-- the callers' frames -/
def frs (l : List Env) : List Addr := l.filterMap (·.frame)
abbrev Cx.fs (X : Cx) : List Addr := frs X.outer

def Vis (sc : Scope) (x : Str) : Prop := sc.names.lookup x = some .local ∨ sc.names.lookup x = some .cell ∨ sc.names.lookup x = some .free
def Loc (sc : Scope) (x : Str) : Prop := sc.names.lookup x = some .local ∨ sc.names.lookup x = some .cell
def Look (env : Env) (h : Heap) (m : Str → Option Value) (x : Str) (u : Value) : Prop :=
  (env.kindOf x = some .local ∧ m x = some u) ∨ ((env.kindOf x = some .cell ∨ env.kindOf x = some .free) ∧ ∃ c, env.cells.lookup x = some c ∧ h.IsCell c (some u))

structure Cx.Ok (X : Cx) : Prop where
  mod : Mod X.K X.mg X.base
  kind : X.env.scope.kind = .function
  glob : X.env.globals = mainGlobals
  blt : X.env.builtins = builtinsNs
  above : X.s₀.heap.objs.size ≤ X.env.locals
  inj : ∀ x y c, X.env.cells.lookup x = some c → X.env.cells.lookup y = some c → x = y
  has : ∀ x, (X.env.kindOf x = some .cell ∨ X.env.kindOf x = some .free) → ∃ c, X.env.cells.lookup x = some c
  cab : ∀ x c, X.fn x = true → X.env.cells.lookup x = some c → X.s₀.heap.objs.size ≤ c
  hd : X.calm = true → X.A.handled = none
  frames : X.A.frames = some X.stack
  stk : X.stack = X.outer ∨ (X.stack = X.env :: X.outer ∧ X.env.frame = some X.env.locals)
  exf : ∀ b ∈ X.ex, b ≠ X.env.locals ∧ ∀ x c, X.env.cells.lookup x = some c → c ≠ b
  bs : ∀ b o, X.base.get? b = some o → X.s₀.heap.get? b = some o ∧ X.H₀ b = none
  bsz : X.base.objs.size ≤ X.s₀.heap.objs.size
  noex : ∀ b o, X.base.get? b = some o → b ∉ X.ex
  exfs : ∀ b ∈ X.ex, b ∉ X.fs
  funs : X.s₀.heap.FunFrames X.base X.outer
  frf : ∀ b ∈ X.fs, X.H₀ b = none

structure Inv (X : Cx) (pins : List (Addr × Obj)) (σ : List (Option V)) (H : Hp) (s : Shared) : Prop where
  ok : X.Ok
  os : s.os = X.s₀.os
  bare : AllBare s.gens
  base : Un X.fs X.ex X.H₀ H X.s₀.heap s.heap
  loc : ∃ m, s.heap.Ns X.env.locals m ∧ ∀ (i : Nat) (x : Str) (v : V), X.N[i]? = some x → σ[i]? = some (some v) → Vis X.env.scope x → ∃ u, RelV v u ∧ Look X.env s.heap m x u
  cell : ∀ x c, X.env.cells.lookup x = some c → ∃ v, s.heap.IsCell c v
  free : H X.env.locals = none
  freeC : ∀ x c, X.env.cells.lookup x = some c → H c = none
  pin : ∀ p ∈ X.pn ++ pins, s.heap.get? p.1 = some p.2 ∧ H p.1 = none ∧ p.1 ≠ X.env.locals ∧ p.1 ∉ X.fs ∧ ∀ v, p.2.data ≠ .cell v
  hok : HOk X.prog X.w H s.heap
  len : σ.length = X.N.length

section
variable {X : Cx} {pins : List (Addr × Obj)} {σ : List (Option V)} {H H' : Hp} {s : Shared} {h' : Heap}

theorem Cx.Ok.nofr (ok : X.Ok) {b : Addr} {o : Obj} (e : X.base.get? b = some o) : b ∉ X.fs := fun hb => by
  have := (ok.funs.mem hb).1
  rw [e] at this; cases this
theorem Inv.bs (I : Inv X pins σ H s) : ∀ b o, X.base.get? b = some o → s.heap.get? b = some o ∧ H b = none := fun b o e =>
  ⟨I.base.keep b o (I.ok.bs b o e).1 (I.ok.bs b o e).2 (I.ok.nofr e) (I.ok.noex b o e), I.base.free b o (I.ok.bs b o e).1 (I.ok.bs b o e).2 (I.ok.noex b o e)⟩
theorem Inv.bk (I : Inv X pins σ H s) : ∀ b o, X.base.get? b = some o → s.heap.get? b = some o := fun b o e => (I.bs b o e).1
theorem Inv.mod (I : Inv X pins σ H s) : Mod X.K X.mg X.base := I.ok.mod
theorem Inv.kIn (I : Inv X pins σ H s) : X.K.In s.heap := I.ok.mod.kin.keeps I.bk
theorem Inv.nolimit (I : Inv X pins σ H s) : s.heap.NoLimit := I.ok.mod.nolimit.keeps I.bk
/-- the frame over the base: for OpenK's rules (K.In X.base is I.mod.kin) -/
theorem Inv.fr (I : Inv X pins σ H s) : ∃ m, Fr X.base X.env.locals s.heap m :=
  let ⟨m, hn, _⟩ := I.loc
  ⟨m, hn, I.bk, Nat.le_trans I.ok.bsz I.ok.above⟩
theorem Inv.lt (I : Inv X pins σ H s) : X.env.locals < s.heap.objs.size := let ⟨_, hn, _⟩ := I.loc; hn.lt
theorem Inv.sz (I : Inv X pins σ H s) : X.s₀.heap.objs.size ≤ s.heap.objs.size := Nat.le_trans I.ok.above (Nat.le_of_lt I.lt)
theorem Inv.nofs (I : Inv X pins σ H s) {a : Addr} (h : s.heap.objs.size ≤ a) : a ∉ X.fs := fun hb => by
  obtain ⟨_, o, ho, _⟩ := I.ok.funs.mem hb
  exact absurd (Nat.lt_of_lt_of_le (Heap.lt_size ho) (Nat.le_trans I.sz h)) (Nat.lt_irrefl _)
theorem Inv.cne (I : Inv X pins σ H s) : ∀ x c, X.env.cells.lookup x = some c → c ≠ X.env.locals := fun x c e z => by
  obtain ⟨v, o, ho, hd⟩ := I.cell x c e
  obtain ⟨m, ⟨o', es, ep, ho', hd', _⟩, _⟩ := I.loc
  rw [z, ho'] at ho; cases ho; rw [hd'] at hd; cases hd
theorem Inv.funs (I : Inv X pins σ H s) : s.heap.FunFrames X.base X.outer := by
  have all : ∀ (l : List Env), (∀ b ∈ frs l, b ∈ X.fs) → X.s₀.heap.FunFrames X.base l → s.heap.FunFrames X.base l := by
    intro l
    induction l with
    | nil => intro _ _; trivial
    | cons env r ih =>
      intro hs hl
      obtain ⟨hk, ⟨L, o, hf, hn, ho, hd⟩, hr⟩ := hl
      have hL : L ∈ X.fs := hs L (by unfold frs; rw [List.filterMap_cons, hf]; exact List.mem_cons_self)
      obtain ⟨sl, e⟩ := I.base.slot L o ho (I.ok.frf L hL) hL fun z => I.ok.exfs L z hL
      exact ⟨hk, ⟨L, _, hf, hn, e, hd⟩, ih (fun b hb => hs b (by unfold frs; rw [List.filterMap_cons, hf]; exact List.mem_cons_of_mem _ hb)) hr⟩
  exact all X.outer (fun _ hb => hb) I.ok.funs

/-- the frames that run, for a call -/
theorem Inv.stack (I : Inv X pins σ H s) : s.heap.FunFrames X.base X.stack := by
  rcases I.ok.stk with e | ⟨e, hf⟩
  · rw [e]; exact I.funs
  · rw [e]
    obtain ⟨m, hn, _⟩ := I.loc
    refine .cons (by rw [I.ok.kind]; decide) hf hn ?_ I.funs
    exact Heap.get?_none_of_le (Nat.le_trans I.ok.bsz I.ok.above)
theorem Inv.stkSub (I : Inv X pins σ H s) : ∀ b ∈ frs X.stack, b ∈ X.env.locals :: X.fs := fun b hb => by
  rcases I.ok.stk with e | ⟨e, hf⟩
  · rw [e] at hb; exact List.mem_cons_of_mem _ hb
  · rw [e] at hb
    unfold frs at hb
    rw [List.filterMap_cons, hf] at hb
    exact hb
theorem Inv.stkFree (I : Inv X pins σ H s) : ∀ b ∈ frs X.stack, H b = none := fun b hb => by
  rcases List.mem_cons.mp (I.stkSub b hb) with e | hb
  · rw [e]; exact I.free
  · obtain ⟨_, o, ho, _⟩ := I.ok.funs.mem hb
    exact I.base.free b o ho (I.ok.frf b hb) fun z => I.ok.exfs b z hb

/-- THE STEP: the untracked objects but the frame and the records at ch are kept (the callers' frames up to slots), the frame's map is kept, the new abstract heap is held -/
theorem Inv.step {g' : Array GenState} {t' : Nat} {d' : Drawn} {ch : List Addr} (I : Inv X pins σ H s)
    (hch : ∀ b ∈ ch, (b ∈ X.ex ∨ X.s₀.heap.objs.size ≤ b) ∧ b ≠ X.env.locals ∧ (∀ x c, X.env.cells.lookup x = some c → c ≠ b) ∧ ∀ p ∈ X.pn ++ pins, p.1 ≠ b)
    (keep : ∀ b o, b ≠ X.env.locals → b ∉ X.fs → b ∉ ch → s.heap.get? b = some o → H b = none → h'.get? b = some o)
    (slot : ∀ b o, b ≠ X.env.locals → b ∈ X.fs → b ∉ ch → s.heap.get? b = some o → H b = none → ∃ sl, h'.get? b = some { o with slots := sl }) (free : ∀ b o, b ∉ ch → s.heap.get? b = some o → H b = none → H' b = none)
    (there : ∀ b o, b ∉ ch → s.heap.get? b = some o → ∃ o', h'.get? b = some o')
    (tups : ∀ b xs, H b = some (.tup xs) → H' b = some (.tup xs)) (frzs : ∀ b o u, H b = some (.frz o u) → H' b = some (.frz o u)) (tbls : ∀ b ps, H b = some (.tbl ps) → ∃ more, H' b = some (.tbl (ps ++ more)))
    (ns : ∀ m, s.heap.Ns X.env.locals m → h'.Ns X.env.locals m) (hok : HOk X.prog X.w H' h') (hg : AllBare g') :
    Inv X pins σ H' { s with heap := h', gens := g', drawn := d', toks := t' } := by
  have neL : ∀ b o, X.s₀.heap.get? b = some o → b ≠ X.env.locals := fun b o e => Nat.ne_of_lt (Nat.lt_of_lt_of_le (Heap.lt_size e) I.ok.above)
  have neC : ∀ b o, X.s₀.heap.get? b = some o → b ∉ X.ex → b ∉ ch := fun b o e hx hb => by
    rcases (hch b hb).1 with z | z
    · exact hx z
    · exact absurd (Nat.lt_of_lt_of_le (Heap.lt_size e) z) (Nat.lt_irrefl _)
  have cellK : ∀ x c, X.env.cells.lookup x = some c → ∀ v, s.heap.IsCell c v → h'.IsCell c v := fun x c e v ⟨o, ho, hd⟩ => by
    have nch : c ∉ ch := fun z => (hch c z).2.2.1 x c e rfl
    by_cases hc : c ∈ X.fs
    · obtain ⟨sl, q⟩ := slot c o (I.cne x c e) hc nch ho (I.freeC x c e)
      exact ⟨_, q, hd⟩
    · exact ⟨o, keep c o (I.cne x c e) hc nch ho (I.freeC x c e), hd⟩
  refine ⟨I.ok, I.os, hg, ⟨fun b o e n hb hx => ?_, fun b o e n hb hx => ?_, fun b o e n hx => ?_, fun b o e hx => ?_, fun b xs e => tups b xs (I.base.tups b xs e), fun b o xs e => frzs b o xs (I.base.frzs b o xs e), fun b ps e => ?_⟩, ?_, fun x c e => ?_, ?_, fun x c e => ?_, fun p hp => ?_, hok, I.len⟩
  · exact keep b o (neL b o e) hb (neC b o e hx) (I.base.keep b o e n hb hx) (I.base.free b o e n hx)
  · obtain ⟨sl, e1⟩ := I.base.slot b o e n hb hx
    obtain ⟨sl', e2⟩ := slot b _ (neL b o e) hb (neC b o e hx) e1 (I.base.free b o e n hx)
    exact ⟨sl', e2⟩
  · obtain ⟨o', e1⟩ := I.base.there b o e hx
    exact free b o' (neC b o e hx) e1 (I.base.free b o e n hx)
  · obtain ⟨o', e1⟩ := I.base.there b o e hx
    exact there b o' (neC b o e hx) e1
  · obtain ⟨m1, e1⟩ := I.base.tbls b ps e
    obtain ⟨m2, e2⟩ := tbls b _ e1
    exact ⟨m1 ++ m2, by rw [e2, Array.append_assoc]⟩
  · obtain ⟨m, hn, hl⟩ := I.loc
    refine ⟨m, ns m hn, fun i x v e1 e2 e3 => ?_⟩
    obtain ⟨u, r, l⟩ := hl i x v e1 e2 e3
    refine ⟨u, r, ?_⟩
    rcases l with l | ⟨k, c, e, z⟩
    · exact .inl l
    · exact .inr ⟨k, c, e, cellK x c e _ z⟩
  · obtain ⟨v, z⟩ := I.cell x c e
    exact ⟨v, cellK x c e v z⟩
  · obtain ⟨m, ⟨o, _, _, ho, _⟩, _⟩ := I.loc
    exact free _ o (fun z => (hch _ z).2.1 rfl) ho I.free
  · obtain ⟨v, o, ho, hd⟩ := I.cell x c e
    exact free c o (fun z => (hch c z).2.2.1 x c e rfl) ho (I.freeC x c e)
  · obtain ⟨e, n, ne, nf, d⟩ := I.pin p hp
    have nch : p.1 ∉ ch := fun z => (hch p.1 z).2.2.2 p hp rfl
    exact ⟨keep p.1 p.2 ne nf nch e n, free p.1 p.2 nch e n, ne, nf, d⟩
/-- .. where the frame's own object is kept too -/
theorem Inv.un {t' : Nat} (I : Inv X pins σ H s) (u : Un X.fs [] H H' s.heap h') (hok : HOk X.prog X.w H' h') : Inv X pins σ H' { s with heap := h', toks := t' } := by
  obtain ⟨m, ⟨o, es, ep, ho, r⟩, _⟩ := id I.loc
  obtain ⟨sl, hL⟩ := u.any ho I.free (by simp)
  exact I.step (g' := s.gens) (d' := s.drawn) (ch := []) (fun _ z => nomatch z) (fun b o _ hb _ e n => u.keep b o e n hb (by simp)) (fun b o _ hb _ e n => u.slot b o e n hb (by simp)) (fun b o _ e n => u.free b o e n (by simp)) (fun b o _ e => u.there b o e (by simp)) u.tups u.frzs u.tbls (fun m' hm => by
    obtain ⟨o', es', ep', ho', r'⟩ := hm
    rw [ho] at ho'; cases ho'
    exact ⟨_, es', ep', hL, r'⟩) hok I.bare
/-- behind a call (or a comprehension's block): the slots of this frame may have changed too, the records at ch may have turned -/
theorem Inv.call {g' : Array GenState} {t' : Nat} {d' : Drawn} {ch : List Addr} (I : Inv X pins σ H s) (u : Un (frs X.stack) ch H H' s.heap h') (hok : HOk X.prog X.w H' h') (hg : AllBare g')
    (hch : ∀ b ∈ ch, (b ∈ X.ex ∨ X.s₀.heap.objs.size ≤ b) ∧ b ≠ X.env.locals ∧ (∀ x c, X.env.cells.lookup x = some c → c ≠ b) ∧ ∀ p ∈ X.pn ++ pins, p.1 ≠ b) :
    Inv X pins σ H' { s with heap := h', gens := g', drawn := d', toks := t' } := by
  obtain ⟨m, ⟨o, es, ep, ho, r⟩, _⟩ := id I.loc
  obtain ⟨sl, hL⟩ := u.any ho I.free fun z => (hch _ z).2.1 rfl
  exact I.step (ch := ch) hch (fun b o hL hb hc e n => u.keep b o e n (fun z => (List.mem_cons.mp (I.stkSub b z)).elim hL hb) hc) (fun b o _ _ hc e n => u.any e n hc) (fun b o hc e n => u.free b o e n hc) (fun b o hc e => u.there b o e hc) u.tups u.frzs u.tbls (fun m' hm => by
    obtain ⟨o', es', ep', ho', r'⟩ := hm
    rw [ho] at ho'; cases ho'
    exact ⟨_, es', ep', hL, r'⟩) hok hg
/-- an untracked record of ours (an iterator) has turned -/
theorem Inv.turned {t' : Nat} {it : Addr} (I : Inv X pins σ H s) (k : ∀ b o, b ≠ it → s.heap.get? b = some o → h'.get? b = some o) (hn : H it = none) (hL : it ≠ X.env.locals)
    (h1 : it ∈ X.ex ∨ X.s₀.heap.objs.size ≤ it) (h2 : ∀ x c, X.env.cells.lookup x = some c → c ≠ it) (h3 : ∀ p ∈ X.pn ++ pins, p.1 ≠ it) : Inv X pins σ H { s with heap := h', toks := t' } := by
  have nit : ∀ b u, H b = some u → b ≠ it := fun b u e z => by rw [z, hn] at e; cases e
  refine I.step (g' := s.gens) (d' := s.drawn) (ch := [it]) (fun b hb => ?_) (fun b o _ _ hc e _ => k b o (fun z => hc (by simp [z])) e) (fun b o _ _ hc e _ => ⟨o.slots, k b o (fun z => hc (by simp [z])) e⟩) (fun _ _ _ _ n => n)
    (fun b o hc e => ⟨o, k b o (fun z => hc (by simp [z])) e⟩) (fun _ _ e => e) (fun _ _ _ e => e) (fun b ps e => ⟨#[], by rw [e]; simp⟩) (fun m hm => ?_) (fun b u e => ?_) I.bare
  · have e : b = it := by simpa using hb
    subst e
    exact ⟨h1, hL, h2, h3⟩
  · obtain ⟨o, es, ep, ho, r⟩ := hm
    exact ⟨o, es, ep, k _ o (Ne.symm hL) ho, r⟩
  · refine (I.hok b u e).stay (fun c v hc q => k c v ?_ q) (fun _ q => q) fun _ _ q => q
    rcases hc with z | z
    · rw [z]; exact nit b u e
    · exact nit c _ z
theorem Inv.tok (I : Inv X pins σ H s) (t : Nat) : Inv X pins σ H { s with toks := t } := I.un (h' := s.heap) (t' := t) Un.refl I.hok
/-- all objects kept -/
theorem Inv.kept {t' : Nat} (I : Inv X pins σ H s) (k : ∀ b u, s.heap.get? b = some u → h'.get? b = some u) : Inv X pins σ H { s with heap := h', toks := t' } := I.un (Un.kept k) (I.hok.kept k)
/-- a new object laid and tracked -/
theorem Inv.laid {a : Addr} {o : HO} {t' : Nat} (I : Inv X pins σ H s) (k : ∀ b u, s.heap.get? b = some u → h'.get? b = some u) (hp : s.heap.objs.size ≤ a) (new : ObjOk X.prog X.w (upd H a o) h' a o) :
    Inv X pins σ (upd H a o) { s with heap := h', toks := t' } := I.un (Un.laid k hp (I.hok.fresh hp)) (I.hok.laid k hp new)
/-- an object written -/
theorem Inv.write {x e : Addr} {o : HO} {t' : Nat} (I : Inv X pins σ H s) (mu : Mut (H x)) (he : e = x ∨ H e = some (.own x)) (k : ∀ b u, b ≠ e → s.heap.get? b = some u → h'.get? b = some u) (heo : ∃ u, h'.get? e = some u)
    (new : ObjOk X.prog X.w (upd H x o) h' x o) : Inv X pins σ (upd H x o) { s with heap := h', toks := t' } := I.un (Un.write mu he k heo) (I.hok.write mu he k heo new)
/-- forgetting slots, pins -/
theorem Inv.weak {σ' : List (Option V)} (I : Inv X pins σ H s) (hl : σ'.length = σ.length) (w : ∀ (i : Nat) v, σ'[i]? = some (some v) → σ[i]? = some (some v)) : Inv X pins σ' H s :=
  ⟨I.ok, I.os, I.bare, I.base, let ⟨m, hn, hl'⟩ := I.loc; ⟨m, hn, fun i x v e1 e2 e3 => hl' i x v e1 (w i v e2) e3⟩, I.cell, I.free, I.freeC, I.pin, I.hok, hl.trans I.len⟩
theorem Inv.pins_of {pins' : List (Addr × Obj)} (I : Inv X pins σ H s) (h : ∀ p ∈ pins', s.heap.get? p.1 = some p.2 ∧ H p.1 = none ∧ p.1 ≠ X.env.locals ∧ p.1 ∉ X.fs ∧ ∀ v, p.2.data ≠ .cell v) : Inv X pins' σ H s :=
  ⟨I.ok, I.os, I.bare, I.base, I.loc, I.cell, I.free, I.freeC, fun p hp => (List.mem_append.mp hp).elim (fun z => I.pin p (List.mem_append_left _ z)) (h p), I.hok, I.len⟩

theorem nodup_ix {N : List Str} (hN : N.Nodup) {i j : Nat} {x : Str} (a : N[i]? = some x) (b : N[j]? = some x) : i = j := by
  obtain ⟨h1, e1⟩ := List.getElem?_eq_some_iff.mp a
  obtain ⟨h2, e2⟩ := List.getElem?_eq_some_iff.mp b
  exact (List.getElem_inj hN).mp (e1.trans e2.symm)

/-- a name is stored; what changed -/
theorem store_ok2 {M : Model} {A : Around} {E : Value → Shared → Prop} {i : Nat} {x : Str} {v : V} {u : Value} {Q : Unit → Shared → Prop} (I : Inv X pins σ H s) (hN : X.N.Nodup) (hi : X.N[i]? = some x) (hx : Loc X.env.scope x) (r : RelV v u)
    (h : ∀ s', Inv X pins (σ.set i (some v)) H s' → (∃ a, Heap.SameBut a s.heap s'.heap ∧ (a = X.env.locals ∨ X.env.cells.lookup x = some a)) → Q () s') (hf : X.fn x = true ∨ X.env.scope.names.lookup x = some .local := by first | exact .inl rfl | exact .inr rfl | assumption) : wpAny M A (storeName X.env x u) Q E s := by
  obtain ⟨m, hn, hl⟩ := id I.loc
  have hcls : (X.env.scope.kind == .class || (X.env.scope.kind == .module && X.env.locals != X.env.globals)) = false := by rw [I.ok.kind]; rfl
  have hiσ : i < σ.length := by rw [I.len]; exact (List.getElem?_eq_some_iff.mp hi).1
  have cne := I.cne
  have tracked : ∀ {a : Addr} {h' : Heap}, (∃ o, s.heap.get? a = some o ∧ H a = none) → Heap.SameBut a s.heap h' → HOk X.prog X.w H h' := fun {a h'} ha hs b ob e => by
    obtain ⟨_, _, hfree⟩ := ha
    refine (I.hok b ob e).stay (fun c w' hc q => (hs.2 c ?_).trans q) (fun _ q => q) fun _ _ q => q
    rintro rfl
    rcases hc with rfl | hc
    · rw [hfree] at e; cases e
    · rw [hfree] at hc; cases hc
  rcases hx with hk | hk
  · refine wpAny_storeName_local hk hn (fun h' hn' hs => ?_) hcls
    obtain ⟨oL, _, _, hoL, _⟩ := id hn
    refine h _ ⟨I.ok, I.os, I.bare, ⟨fun b o e n hb hx => ?_, fun b o e n hb hx => ?_, I.base.free, fun b o e hx => ?_, I.base.tups, I.base.frzs, I.base.tbls⟩, ⟨_, hn', fun j y v' e1 e2 e3 => ?_⟩, fun y c e => ?_, I.free, I.freeC, fun p hp => ?_, tracked ⟨oL, hoL, I.free⟩ hs, by simpa using I.len⟩ ⟨_, hs, .inl rfl⟩
    · exact (hs.2 b (Nat.ne_of_lt (Nat.lt_of_lt_of_le (Heap.lt_size e) I.ok.above))).trans (I.base.keep b o e n hb hx)
    · obtain ⟨sl, e1⟩ := I.base.slot b o e n hb hx
      exact ⟨sl, (hs.2 b (Nat.ne_of_lt (Nat.lt_of_lt_of_le (Heap.lt_size e) I.ok.above))).trans e1⟩
    · obtain ⟨o', e1⟩ := I.base.there b o e hx
      exact ⟨o', (hs.2 b (Nat.ne_of_lt (Nat.lt_of_lt_of_le (Heap.lt_size e) I.ok.above))).trans e1⟩
    · by_cases hj : j = i
      · subst hj
        rw [hi] at e1; cases e1
        rw [List.getElem?_set_self hiσ] at e2
        cases e2
        exact ⟨u, r, .inl ⟨hk, by simp⟩⟩
      · rw [List.getElem?_set_ne (Ne.symm hj)] at e2
        obtain ⟨u', r', q⟩ := hl j y v' e1 e2 e3
        refine ⟨u', r', ?_⟩
        rcases q with ⟨k, e⟩ | ⟨k, c, e, z⟩
        · refine .inl ⟨k, ?_⟩
          have : y ≠ x := fun e => hj (nodup_ix hN e1 (e ▸ hi))
          simp [this, e]
        · exact .inr ⟨k, c, e, z.sameBut hs (cne y c e)⟩
    · obtain ⟨w', z⟩ := I.cell y c e
      exact ⟨w', z.sameBut hs (cne y c e)⟩
    · obtain ⟨e, n, ne, nf, d⟩ := I.pin p hp
      exact ⟨(hs.2 p.1 ne).trans e, n, ne, nf, d⟩
  · have hfn : X.fn x = true := by
      rcases hf with z | z
      · exact z
      · rw [z] at hk; cases hk
    obtain ⟨c, hc⟩ := I.ok.has x (.inl hk)
    obtain ⟨w', z⟩ := I.cell x c hc
    refine wpAny_storeName_cell I.ok.kind hk hc z (fun h' hc' hs => ?_)
    obtain ⟨oc, hoc, hocd⟩ := id z
    refine h { s with heap := h' } ⟨I.ok, I.os, I.bare, ⟨fun b o e n hb hx => ?_, fun b o e n hb hx => ?_, I.base.free, fun b o e hx => ?_, I.base.tups, I.base.frzs, I.base.tbls⟩, ⟨m, hn.sameBut hs (Ne.symm (cne x c hc)), fun j y v' e1 e2 e3 => ?_⟩, fun y c' e => ?_, I.free, I.freeC, fun p hp => ?_, tracked ⟨oc, hoc, I.freeC x c hc⟩ hs, by simpa using I.len⟩ ⟨c, hs, .inr hc⟩
    · exact (hs.2 b (Nat.ne_of_lt (Nat.lt_of_lt_of_le (Heap.lt_size e) (I.ok.cab x c hfn hc)))).trans (I.base.keep b o e n hb hx)
    · obtain ⟨sl, e1⟩ := I.base.slot b o e n hb hx
      exact ⟨sl, (hs.2 b (Nat.ne_of_lt (Nat.lt_of_lt_of_le (Heap.lt_size e) (I.ok.cab x c hfn hc)))).trans e1⟩
    · obtain ⟨o', e1⟩ := I.base.there b o e hx
      exact ⟨o', (hs.2 b (Nat.ne_of_lt (Nat.lt_of_lt_of_le (Heap.lt_size e) (I.ok.cab x c hfn hc)))).trans e1⟩
    · by_cases hj : j = i
      · subst hj
        rw [hi] at e1; cases e1
        rw [List.getElem?_set_self hiσ] at e2
        cases e2
        exact ⟨u, r, .inr ⟨.inl hk, c, hc, hc'⟩⟩
      · rw [List.getElem?_set_ne (Ne.symm hj)] at e2
        obtain ⟨u', r', q⟩ := hl j y v' e1 e2 e3
        refine ⟨u', r', ?_⟩
        rcases q with q | ⟨k, c', e, z'⟩
        · exact .inl q
        · refine .inr ⟨k, c', e, z'.sameBut hs ?_⟩
          rintro rfl
          exact hj (nodup_ix hN e1 (I.ok.inj _ _ _ e hc ▸ hi))
    · by_cases hcc : c' = c
      · subst hcc; exact ⟨_, hc'⟩
      · obtain ⟨w2, z2⟩ := I.cell y c' e
        exact ⟨w2, z2.sameBut hs hcc⟩
    · obtain ⟨e, n, ne, nf, d⟩ := I.pin p hp
      refine ⟨(hs.2 p.1 ?_).trans e, n, ne, nf, d⟩
      intro q
      rw [q, hoc] at e
      have q' : oc = p.2 := Option.some.inj e
      exact d w' (by rw [← q']; exact hocd)
theorem store_ok {M : Model} {A : Around} {E : Value → Shared → Prop} {i : Nat} {x : Str} {v : V} {u : Value} {Q : Unit → Shared → Prop} (I : Inv X pins σ H s) (hN : X.N.Nodup) (hi : X.N[i]? = some x) (hx : Loc X.env.scope x) (r : RelV v u)
    (h : ∀ s', Inv X pins (σ.set i (some v)) H s' → Q () s') (hf : X.fn x = true ∨ X.env.scope.names.lookup x = some .local := by first | exact .inl rfl | exact .inr rfl | assumption) : wpAny M A (storeName X.env x u) Q E s :=
  store_ok2 I hN hi hx r (fun s' I' _ => h s' I') hf
/-- behind a call or a block, the state as it is -/
theorem Inv.call' {s' : Shared} {ch : List Addr} (I : Inv X pins σ H s) (ho : s'.os = s.os) (u : Un (frs X.stack) ch H H' s.heap s'.heap) (hok : HOk X.prog X.w H' s'.heap) (hg : AllBare s'.gens)
    (hch : ∀ b ∈ ch, (b ∈ X.ex ∨ X.s₀.heap.objs.size ≤ b) ∧ b ≠ X.env.locals ∧ (∀ x c, X.env.cells.lookup x = some c → c ≠ b) ∧ ∀ p ∈ X.pn ++ pins, p.1 ≠ b) : Inv X pins σ H' s' := by
  obtain ⟨h', g', d', t', o'⟩ := s'
  have e : o' = s.os := ho
  subst e
  exact I.call (g' := g') (t' := t') (d' := d') u hok hg hch
end

/-! ### the judgements -/
/-- an exception: its class, its own dict's address (where it has one), the abstract heap behind it -/
abbrev XK := Value → Option Addr → Hp → Prop
abbrev St := List (Option V)
abbrev VK := V → Hp → Prop
/-- an expression's reading; a test's; an argument list's -/
abbrev TE := St → Hp → VK → Prop
abbrev TT := St → Hp → (Bool → Hp → Prop) → Prop
abbrev TA := St → Hp → (List V → Hp → Prop) → Prop
/-- what is wanted behind a statement -/
structure Ends where
  nx : St → Hp → Prop
  rt : VK
  bk : St → Hp → Prop := fun _ _ => False
  ct : St → Hp → Prop := fun _ _ => False
abbrev TS := Ends → St → Hp → Prop

def EP (X : Cx) (pins : List (Addr × Obj)) (σ : St) (Q : VK) (u : Value) (s' : Shared) : Prop := ∃ v H', Inv X pins σ H' s' ∧ RelV v u ∧ Q v H'
def TP (X : Cx) (pins : List (Addr × Obj)) (σ : St) (Q : Bool → Hp → Prop) (b : Bool) (s' : Shared) : Prop := ∃ H', Inv X pins σ H' s' ∧ Q b H'
def AP (X : Cx) (pins : List (Addr × Obj)) (σ : St) (Q : List V → Hp → Prop) (us : List Value) (s' : Shared) : Prop := ∃ vs H', Inv X pins σ H' s' ∧ Vals vs us ∧ Q vs H'
def SP (X : Cx) (pins : List (Addr × Obj)) (D : Ends) (f : Flow) (s' : Shared) : Prop :=
  match f with
  | .next => ∃ σ' H', Inv X pins σ' H' s' ∧ D.nx σ' H'
  | .brk => ∃ σ' H', Inv X pins σ' H' s' ∧ D.bk σ' H'
  | .cont => ∃ σ' H', Inv X pins σ' H' s' ∧ D.ct σ' H'
  | .ret u => ∃ v σ' H', Inv X pins σ' H' s' ∧ RelV v u ∧ D.rt v H'

def PE (X : Cx) (e : Expr) (t : TE) : Prop :=
  ∀ (pins : List (Addr × Obj)) (s : Shared) (σ : St) (H : Hp) (Q : VK), Inv X pins σ H s → t σ H Q → wpAny (model X.prog X.w) X.A (eval e X.env) (EP X pins σ Q) X.xe s
def PT (X : Cx) (e : Expr) (t : TT) : Prop :=
  ∀ (pins : List (Addr × Obj)) (s : Shared) (σ : St) (H : Hp) (Q : Bool → Hp → Prop), Inv X pins σ H s → t σ H Q → wpAny (model X.prog X.w) X.A (isTrue e X.env (eval e X.env)) (TP X pins σ Q) X.xe s
/-- a test whatever its 'whole' is (and, or) -/
def PW (X : Cx) (e : Expr) (t : TT) : Prop :=
  ∀ (whole : Sem Value) (pins : List (Addr × Obj)) (s : Shared) (σ : St) (H : Hp) (Q : Bool → Hp → Prop), Inv X pins σ H s → t σ H Q → wpAny (model X.prog X.w) X.A (isTrue e X.env whole) (TP X pins σ Q) X.xe s
theorem PW.pt {X : Cx} {e : Expr} {t : TT} (h : PW X e t) : PT X e t := h _
/-- an argument list (no star), from the left -/
def PA (X : Cx) (es : List Expr) (t : TA) : Prop :=
  ∀ (pos : Pos) (pins : List (Addr × Obj)) (s : Shared) (σ : St) (H : Hp) (Q : List V → Hp → Prop), Inv X pins σ H s → t σ H Q → wpAny (model X.prog X.w) X.A (spliced (backTo pos (starEach es X.env))) (AP X pins σ Q) X.xe s
def PS (X : Cx) (st : Stmt) (t : TS) : Prop :=
  ∀ (pins : List (Addr × Obj)) (s : Shared) (σ : St) (H : Hp) (D : Ends), Inv X pins σ H s → t D σ H → wpAny (model X.prog X.w) X.A (exec st X.env) (SP X pins D) X.xe s
def PSs (X : Cx) (st : List Stmt) (t : TS) : Prop :=
  ∀ (pins : List (Addr × Obj)) (s : Shared) (σ : St) (H : Hp) (D : Ends), Inv X pins σ H s → t D σ H → wpAny (model X.prog X.w) X.A (execs st X.env) (SP X pins D) X.xe s
/-- weaken the end -/
theorem thn {α : Type} {t : Sem α} {Q Q' : α → Shared → Prop} {M : Model} {A : Around} {E : Value → Shared → Prop} {s : Shared} (h : wpAny M A t Q E s) (hQ : ∀ a s, Q a s → Q' a s) : wpAny M A t Q' E s := wpAny_mono h hQ fun _ _ x => x
end L2

namespace L2
open PySem PySem.Spec PyProof.Rows
section
variable {X : Cx}

/-- two expressions in a row -/
theorem bin {a b : Expr} {ta tb : TE} (ha : PE X a ta) (hb : PE X b tb) {pins : List (Addr × Obj)} {s : Shared} {σ : St} {H : Hp} {R : V → V → Hp → Prop} (I : Inv X pins σ H s) (h : ta σ H fun x H1 => tb σ H1 fun y H2 => R x y H2)
    {α : Type} {Q : α → Shared → Prop} {f : Value → Value → Sem α}
    (hf : ∀ v u s2 x y H2, Inv X pins σ H2 s2 → RelV x v → RelV y u → R x y H2 → wpAny (model X.prog X.w) X.A (f v u) Q X.xe s2) :
    wpAny (model X.prog X.w) X.A (eval a X.env) (fun v s₁ => wpAny (model X.prog X.w) X.A (eval b X.env) (fun u s₂ => wpAny (model X.prog X.w) X.A (f v u) Q X.xe s₂) X.xe s₁) X.xe s := by
  refine thn (ha pins s σ H _ I h) fun v s1 ⟨x, H1, I1, r1, q1⟩ => ?_
  refine thn (hb pins s1 σ H1 _ I1 q1) fun u s2 ⟨y, H2, I2, r2, q2⟩ => ?_
  exact hf v u s2 x y H2 I2 r1 r2 q2

/-! ### names and constants -/
def tVar (i : Nat) : TE := fun σ H Q => ∃ v, σ[i]? = some (some v) ∧ Q v H
def tC (v : V) : TE := fun _ H Q => Q v H
theorem pe_var {i : Nat} {x : Str} {pos : Pos} (hN : X.N[i]? = some x) (hv : Vis X.env.scope x) (hd : (x == ("__debug__" : Str)) = false := by decide) (hcd : (x == ("__classdict__" : Str)) = false := by decide) : PE X (.Name x pos) (tVar i) := by
  intro pins s σ H Q I h
  obtain ⟨v, e, h⟩ := h
  obtain ⟨m, hn, hl⟩ := I.loc
  obtain ⟨u, r, l⟩ := hl i x v hN e hv
  have fin : EP X pins σ Q u s := ⟨v, H, I, r, h⟩
  rcases l with ⟨hk, hm⟩ | ⟨hk, c, hc, hcell⟩
  · exact wpAny_Name (wpAny_loadName_local I.ok.kind hk hn hm fin) hd
  · rcases hk with hk | hk
    · exact wpAny_Name (wpAny_loadName_cell I.ok.kind hk hc hcell fin) hd
    · exact wpAny_Name (wpAny_loadName_free I.ok.kind hk hc hcell fin hcd) hd
theorem pe_int {i j pos} : PE X (.Constant (.int i) j pos) (tC (.int i)) := fun _ _ _ H _ I h => wpAny_Constant_int ⟨.int i, H, I.tok _, ⟨_, rfl⟩, h⟩
theorem pe_bl {b j pos} : PE X (.Constant (.bool b) j pos) (tC (.bl b)) := fun _ _ _ H _ I h => Constant_bool ⟨.bl b, H, I, rfl, h⟩
theorem pe_non {j pos} : PE X (.Constant .none j pos) (tC .non) := fun _ _ _ H _ I h => Constant_none ⟨.non, H, I, rfl, h⟩
theorem pe_str {x j pos} : PE X (.Constant (.str x) j pos) (tC (.str x)) := fun _ _ _ H _ I h => Calls.Constant_str ⟨.str x, H, I.tok _, ⟨_, rfl⟩, h⟩

/-- a global name of the def -/
def Gl (X : Cx) (x : Str) : Prop := X.env.kindOf x = some .globalImplicit
theorem ld_glob {E : Value → Shared → Prop} {pins : List (Addr × Obj)} {s : Shared} {σ : St} {H : Hp} {x : Str} {u : Value} {pos : Pos} {Q : Value → Shared → Prop} (I : Inv X pins σ H s) (hg : Gl X x) (hm : X.mg x = some u) (h : Q u s)
    (hd : (x == ("__debug__" : Str)) = false := by decide) : wpAny (model X.prog X.w) X.A (eval (.Name x pos) X.env) Q E s :=
  Calls.Name_function_global I.ok.kind hg (Calls.loadGlobal_global (by rw [I.ok.glob]; exact I.mod.glob.keeps I.bk) hm h) hd
theorem ld_blt {E : Value → Shared → Prop} {pins : List (Addr × Obj)} {s : Shared} {σ : St} {H : Hp} {x : Str} {u : Value} {pos : Pos} {Q : Value → Shared → Prop} (I : Inv X pins σ H s) (hg : Gl X x) (hm : X.mg x = none) (hv : bootBuiltins x = some u) (h : Q u s)
    (hn : x ≠ "__name__" := by decide) (hd : (x == ("__debug__" : Str)) = false := by decide) : wpAny (model X.prog X.w) X.A (eval (.Name x pos) X.env) Q E s := by
  obtain ⟨mb, h1, h2⟩ := I.mod.blt
  exact Calls.Name_function_global I.ok.kind hg (Calls.loadGlobal_builtin (by rw [I.ok.glob]; exact I.mod.glob.keeps I.bk) hm (by rw [I.ok.blt]; exact h1.keeps I.bk) ((h2 x hn).trans hv) h) hd
/-- a module's constant, a class, a function, as a value -/
theorem pe_glob {x : Str} {v : V} {u : Value} {pos : Pos} (hg : Gl X x) (hm : X.mg x = some u) (r : RelV v u) (hd : (x == ("__debug__" : Str)) = false := by decide) : PE X (.Name x pos) (tC v) :=
  fun _ _ _ H _ I h => ld_glob I hg hm ⟨v, H, I, r, h⟩ hd
theorem pe_bltn {x : Str} {v : V} {u : Value} {pos : Pos} (hg : Gl X x) (hm : X.mg x = none) (hv : bootBuiltins x = some u) (r : RelV v u) (hn : x ≠ "__name__" := by decide) (hd : (x == ("__debug__" : Str)) = false := by decide) : PE X (.Name x pos) (tC v) :=
  fun _ _ _ H _ I h => ld_blt I hg hm hv ⟨v, H, I, r, h⟩ hn hd

/-! ### arithmetic -/
/-- two ints -/
def t2I (ta tb : TE) (k : Int → Int → Hp → Prop) : St → Hp → Prop := fun σ H => ta σ H fun x H1 => tb σ H1 fun y H2 => ∃ i j, x = .int i ∧ y = .int j ∧ k i j H2
def tAdd (ta tb : TE) : TE := fun σ H Q => t2I ta tb (fun i j H2 => Q (.int (i + j)) H2) σ H
def tSub (ta tb : TE) : TE := fun σ H Q => t2I ta tb (fun i j H2 => Q (.int (i - j)) H2) σ H
/-- the left factor below 2^64 -/
def tMul (ta tb : TE) : TE := fun σ H Q => t2I ta tb (fun i j H2 => (-(2 ^ 64) < i ∧ i < 2 ^ 64) ∧ Q (.int (i * j)) H2) σ H
variable {a b : Expr} {ta tb : TE} {pos : Pos}
theorem pe_add (ha : PE X a ta) (hb : PE X b tb) : PE X (.BinOp a .Add b pos) (tAdd ta tb) := by
  intro pins s σ H Q I h
  refine wpAny_BinOp (bin ha hb I h fun v u s2 x y H2 I2 rx ry q => ?_)
  obtain ⟨i, j, rfl, rfl, q⟩ := q
  obtain ⟨t, rfl⟩ := rx
  obtain ⟨t', rfl⟩ := ry
  exact add_int ⟨.int _, H2, I2.tok _, ⟨_, rfl⟩, q⟩
theorem pe_sub (ha : PE X a ta) (hb : PE X b tb) : PE X (.BinOp a .Sub b pos) (tSub ta tb) := by
  intro pins s σ H Q I h
  refine wpAny_BinOp (bin ha hb I h fun v u s2 x y H2 I2 rx ry q => ?_)
  obtain ⟨i, j, rfl, rfl, q⟩ := q
  obtain ⟨t, rfl⟩ := rx
  obtain ⟨t', rfl⟩ := ry
  exact sub_int ⟨.int _, H2, I2.tok _, ⟨_, rfl⟩, q⟩
theorem pe_mul (ha : PE X a ta) (hb : PE X b tb) : PE X (.BinOp a .Mult b pos) (tMul ta tb) := by
  intro pins s σ H Q I h
  refine wpAny_BinOp (bin ha hb I h fun v u s2 x y H2 I2 rx ry q => ?_)
  obtain ⟨i, j, rfl, rfl, ⟨q1, q2⟩, q⟩ := q
  obtain ⟨t, rfl⟩ := rx
  obtain ⟨t', rfl⟩ := ry
  exact mul_int ⟨.int _, H2, I2.tok _, ⟨_, rfl⟩, q⟩ (.of_left (intBits_le_64 q1 q2))

/-! ### comparisons -/
def PC (X : Cx) (op : CmpOp) (a b : Expr) (t : TE) : Prop :=
  ∀ (pins : List (Addr × Obj)) (s : Shared) (σ : St) (H : Hp) (Q : VK), Inv X pins σ H s → t σ H Q →
    wpAny (model X.prog X.w) X.A (eval a X.env) (fun v s₁ => wpAny (model X.prog X.w) X.A (eval b X.env) (fun u s₂ => wpAny (model X.prog X.w) X.A (compareOp op v u) (EP X pins σ Q) X.xe s₂) X.xe s₁) X.xe s
theorem nobehind (b : Expr) {op : CmpOp} (h : op ≠ .In) (h2 : op ≠ .NotIn) : behindInMarks op b = false := by
  have e1 : (op == CmpOp.In) = false := by cases op <;> first | rfl | exact absurd rfl h
  have e2 : (op == CmpOp.NotIn) = false := by cases op <;> first | rfl | exact absurd rfl h2
  cases b <;> simp [behindInMarks, e1, e2]
def tCmp (p : Int → Int → Bool) (ta tb : TE) : TE := fun σ H Q => t2I ta tb (fun i j H2 => Q (.bl (p i j)) H2) σ H
abbrev tLt : TE → TE → TE := tCmp fun i j => decide (i < j)
abbrev tLe : TE → TE → TE := tCmp fun i j => decide (i ≤ j)
abbrev tGt : TE → TE → TE := tCmp fun i j => decide (j < i)
abbrev tGe : TE → TE → TE := tCmp fun i j => decide (j ≤ i)
abbrev tEqI : TE → TE → TE := tCmp fun i j => decide (i = j)
abbrev tNeI : TE → TE → TE := tCmp fun i j => !decide (i = j)
/-- a comparison of two ints, by its rule -/
theorem pc_int {op : CmpOp} {p : Int → Int → Bool} (ha : PE X a ta) (hb : PE X b tb)
    (rule : ∀ (i j : Int) (t u : Tok) (Q : Value → Shared → Prop) (s : Shared), Q (.bool (p i j)) s → wpAny (model X.prog X.w) X.A (compareOp op (.int i t) (.int j u)) Q X.xe s) : PC X op a b (tCmp p ta tb) := by
  intro pins s σ H Q I h
  refine bin ha hb I h fun v u s2 x y H2 I2 rx ry q => ?_
  obtain ⟨i, j, rfl, rfl, q⟩ := q
  obtain ⟨t, rfl⟩ := rx
  obtain ⟨t', rfl⟩ := ry
  exact rule i j t t' _ s2 ⟨.bl _, H2, I2, rfl, q⟩
theorem pc_lt (ha : PE X a ta) (hb : PE X b tb) : PC X .Lt a b (tLt ta tb) := pc_int ha hb fun _ _ _ _ _ _ h => lt_int h
theorem pc_le (ha : PE X a ta) (hb : PE X b tb) : PC X .LtE a b (tLe ta tb) := pc_int ha hb fun _ _ _ _ _ _ h => le_int h
theorem pc_gt (ha : PE X a ta) (hb : PE X b tb) : PC X .Gt a b (tGt ta tb) := pc_int ha hb fun _ _ _ _ _ _ h => gt_int h
theorem pc_ge (ha : PE X a ta) (hb : PE X b tb) : PC X .GtE a b (tGe ta tb) := pc_int ha hb fun _ _ _ _ _ _ h => ge_int h
theorem pc_eqI (ha : PE X a ta) (hb : PE X b tb) : PC X .Eq a b (tEqI ta tb) := pc_int ha hb fun _ _ _ _ _ _ h => eq_int (by rw [Bool.beq_eq_decide_eq]; exact h)
theorem pc_neI (ha : PE X a ta) (hb : PE X b tb) : PC X .NotEq a b (tNeI ta tb) := pc_int ha hb fun _ _ _ _ _ _ h => ne_int (by rw [bne, Bool.beq_eq_decide_eq]; exact h)
/-- is None -/
def tIsN (ta : TE) : TE := fun σ H Q => ta σ H fun x H1 => Q (.bl (decide (x = .non))) H1
def tNotN (ta : TE) : TE := fun σ H Q => ta σ H fun x H1 => Q (.bl (!decide (x = .non))) H1
theorem RelV.none_iff {x : V} {v : Value} (r : RelV x v) : (v == Value.none) = decide (x = .non) := by
  cases x with
  | non => cases r; rfl
  | bl _ => cases r; rfl
  | int _ => obtain ⟨t, rfl⟩ := r; rfl
  | str _ => obtain ⟨t, rfl⟩ := r; rfl
  | byt _ => obtain ⟨t, rfl⟩ := r; rfl
  | flt _ => obtain ⟨t, rfl⟩ := r; rfl
  | ref _ => cases r; rfl
  | ty _ => cases r; rfl
theorem pc_isN {j pos'} (ha : PE X a ta) : PC X .Is a (.Constant .none j pos') (tIsN ta) := by
  intro pins s σ H Q I h
  refine thn (ha pins s σ H _ I h) fun v s1 ⟨x, H1, I1, r1, q1⟩ => ?_
  exact Constant_none (is_none_gen ⟨.bl _, H1, I1, by rw [r1.none_iff]; rfl, q1⟩)
theorem pc_notN {j pos'} (ha : PE X a ta) : PC X .IsNot a (.Constant .none j pos') (tNotN ta) := by
  intro pins s σ H Q I h
  refine thn (ha pins s σ H _ I h) fun v s1 ⟨x, H1, I1, r1, q1⟩ => ?_
  exact Constant_none (isnot_none_gen ⟨.bl _, H1, I1, by rw [r1.none_iff]; rfl, q1⟩)
/-- a comparison as a value, as a test -/
def tB (t : TE) : TT := fun σ H Q => t σ H fun x H1 => ∃ c, x = .bl c ∧ Q c H1
theorem pe_cmp {op : CmpOp} {t : TE} (h : PC X op a b t) (h1 : behindInMarks op b = false := by first | exact nobehind _ (by decide) (by decide) | rfl) : PE X (.Compare a [op] [b] pos) t := fun pins s σ H Q I hw => wpAny_Compare1 (h pins s σ H Q I hw) h1
theorem pt_cmp {op : CmpOp} {t : TE} (h : PC X op a b t) (h1 : behindInMarks op b = false := by first | exact nobehind _ (by decide) (by decide) | rfl) : PT X (.Compare a [op] [b] pos) (tB t) := by
  intro pins s σ H Q I hw
  refine wpAny_isTrue_Compare1 (thn (h pins s σ H _ I hw) fun v s1 h1 => thn h1 fun u s2 h2 => thn h2 fun c s3 ⟨x, H1, I1, r1, q1⟩ => ?_) h1
  obtain ⟨d, rfl, q⟩ := q1
  cases r1
  exact wpAny_truthy_bool ⟨H1, I1, q⟩
/-- an expression whose value is a bool, as a test -/
theorem pt_val {e : Expr} {t : TE} (h : PE X e t) (he : ∀ whole, isTrue e X.env whole = (do let v ← whole; standAt e.pos; holding [v] (truthy v)) := by intro _; rfl) : PT X e (tB t) := by
  intro pins s σ H Q I hw
  refine isTrue_plain (thn (h pins s σ H _ I hw) fun v s1 ⟨x, H1, I1, r1, q1⟩ => ?_) (he _)
  obtain ⟨d, rfl, q⟩ := q1
  cases r1
  exact wpAny_truthy_bool ⟨H1, I1, q⟩

/-! ### and, or, not -/
variable {tA tB' : TT} {rest : List Expr}
def tAnd (t u : TT) : TT := fun σ H Q => t σ H fun c H1 => if c = true then u σ H1 Q else Q false H1
def tOr (t u : TT) : TT := fun σ H Q => t σ H fun c H1 => if c = true then Q true H1 else u σ H1 Q
def tNot (t : TT) : TT := fun σ H Q => t σ H fun c H1 => Q (!c) H1
theorem pw_and1 (ha : PT X a tA) : PW X (.BoolOp .And [a] pos) tA := by
  intro wh pins s σ H Q I h
  refine isTrue_and (thn (ha pins s σ H Q I h) fun c s1 e => ?_)
  cases c with
  | true => exact isTrue_and_nil e
  | false => exact e
theorem pw_or1 (ha : PT X a tA) : PW X (.BoolOp .Or [a] pos) tA := by
  intro wh pins s σ H Q I h
  refine isTrue_or (thn (ha pins s σ H Q I h) fun c s1 e => ?_)
  cases c with
  | false => exact isTrue_or_nil e
  | true => exact e
theorem pw_and (ha : PT X a tA) (hb : PW X (.BoolOp .And (b :: rest) pos) tB') : PW X (.BoolOp .And (a :: b :: rest) pos) (tAnd tA tB') := by
  intro wh pins s σ H Q I h
  refine isTrue_and (thn (ha pins s σ H _ I h) fun c s1 ⟨H1, I1, q1⟩ => ?_)
  cases c with
  | true => exact hb wh pins s1 σ H1 Q I1 q1
  | false => exact ⟨H1, I1, q1⟩
theorem pw_or (ha : PT X a tA) (hb : PW X (.BoolOp .Or (b :: rest) pos) tB') : PW X (.BoolOp .Or (a :: b :: rest) pos) (tOr tA tB') := by
  intro wh pins s σ H Q I h
  refine isTrue_or (thn (ha pins s σ H _ I h) fun c s1 ⟨H1, I1, q1⟩ => ?_)
  cases c with
  | true => exact ⟨H1, I1, q1⟩
  | false => exact hb wh pins s1 σ H1 Q I1 q1
theorem pt_not (ha : PT X a tA) : PT X (.UnaryOp .Not a pos) (tNot tA) := by
  intro pins s σ H Q I h
  exact isTrue_not (ha pins s σ H (fun c H1 => Q (!c) H1) I h)
/-- .. as values (bools) -/
def tAndV (ta tb : TE) : TE := fun σ H Q => ta σ H fun x H1 => ∃ c, x = .bl c ∧ if c = true then tb σ H1 Q else Q (.bl false) H1
def tOrV (ta tb : TE) : TE := fun σ H Q => ta σ H fun x H1 => ∃ c, x = .bl c ∧ if c = true then Q (.bl true) H1 else tb σ H1 Q
def tNotV (ta : TE) : TE := fun σ H Q => ta σ H fun x H1 => ∃ c, x = .bl c ∧ Q (.bl (!c)) H1
theorem pe_one {op} {t : TE} (h : PE X a t) : PE X (.BoolOp op [a] pos) t := fun pins s σ H Q I hw => BoolOp_one (h pins s σ H Q I hw)
theorem pe_and (ha : PE X a ta) (hb : PE X (.BoolOp .And (b :: rest) pos) tb) : PE X (.BoolOp .And (a :: b :: rest) pos) (tAndV ta tb) := by
  intro pins s σ H Q I h
  refine BoolOp_and (thn (ha pins s σ H _ I h) fun v s1 ⟨x, H1, I1, r1, q1⟩ => ?_)
  obtain ⟨c, rfl, q1⟩ := q1
  cases r1
  refine wpAny_truthy_bool ?_
  cases c with
  | true => exact hb pins s1 σ H1 Q I1 q1
  | false => exact ⟨.bl false, H1, I1, rfl, q1⟩
theorem pe_or (ha : PE X a ta) (hb : PE X (.BoolOp .Or (b :: rest) pos) tb) : PE X (.BoolOp .Or (a :: b :: rest) pos) (tOrV ta tb) := by
  intro pins s σ H Q I h
  refine BoolOp_or (thn (ha pins s σ H _ I h) fun v s1 ⟨x, H1, I1, r1, q1⟩ => ?_)
  obtain ⟨c, rfl, q1⟩ := q1
  cases r1
  refine wpAny_truthy_bool ?_
  cases c with
  | false => exact hb pins s1 σ H1 Q I1 q1
  | true => exact ⟨.bl true, H1, I1, rfl, q1⟩
theorem pe_not (ha : PE X a ta) : PE X (.UnaryOp .Not a pos) (tNotV ta) := by
  intro pins s σ H Q I h
  refine UnaryOp_ (thn (ha pins s σ H _ I h) fun v s1 ⟨x, H1, I1, r1, q1⟩ => ?_)
  obtain ⟨c, rfl, q1⟩ := q1
  cases r1
  exact not_of (wpAny_truthy_bool ⟨.bl (!c), H1, I1, rfl, q1⟩)
/-- a if t else b -/
def tIf (t : TT) (ta tb : TE) : TE := fun σ H Q => t σ H fun c H1 => if c = true then ta σ H1 Q else tb σ H1 Q
theorem pe_ifExp {c : Expr} (hc : PT X c tA) (ha : PE X a ta) (hb : PE X b tb) : PE X (.IfExp c a b pos) (tIf tA ta tb) := by
  intro pins s σ H Q I h
  refine wpAny_IfExp (thn (hc pins s σ H _ I h) fun d s1 ⟨H1, I1, q1⟩ => ?_)
  cases d with
  | true => exact ha pins s1 σ H1 Q I1 q1
  | false => exact hb pins s1 σ H1 Q I1 q1
end
end L2

namespace L2
open PySem PySem.Spec PyProof.Rows

/-! ### a list, a tuple that is read: tracked, frozen, or an object of the module -/
def SqL (K : PySem.W.Frag) (H : Hp) (a : Addr) (xs : List V) : Prop :=
  Rd H a (.lst xs) ∨
    ∃ (o : Obj) (its : Array Value) (n : Nat), K.lookup a = some o ∧ o.cls = .type "list" ∧ o.dict = none ∧ o.data = .seq its n ∧ its.size ≤ sizeLine ∧ Vals xs its.toList
def SqT (K : PySem.W.Frag) (H : Hp) (a : Addr) (xs : List V) : Prop :=
  Rd H a (.tup xs) ∨
    ∃ (o : Obj) (its : Array Value) (n : Nat), K.lookup a = some o ∧ o.cls = .type "tuple" ∧ o.data = .seq its n ∧ its.size ≤ sizeLine ∧ Vals xs its.toList
def absV : Value → Option V
  | .none => some .non
  | .bool b => some (.bl b)
  | .int i _ => some (.int i)
  | .str x _ => some (.str x)
  | .bytes b _ => some (.byt b)
  | .float b _ => some (.flt b)
  | .ref a => some (.ref a)
  | .type n => some (.ty n)
  | _ => none
theorem RelV.abs {x : V} {u : Value} (r : RelV x u) : absV u = some x := by
  cases x with
  | non => cases r; rfl
  | bl _ => cases r; rfl
  | int _ => obtain ⟨t, rfl⟩ := r; rfl
  | str _ => obtain ⟨t, rfl⟩ := r; rfl
  | byt _ => obtain ⟨t, rfl⟩ := r; rfl
  | flt _ => obtain ⟨t, rfl⟩ := r; rfl
  | ref _ => cases r; rfl
  | ty _ => cases r; rfl
theorem RelV.inj {x y : V} {u : Value} (r : RelV x u) (q : RelV y u) : x = y := Option.some.inj (r.abs.symm.trans q.abs)
theorem Vals.inj : ∀ {xs ys : List V} {us : List Value}, Vals xs us → Vals ys us → xs = ys
  | _, _, _, .nil, .nil => rfl
  | _, _, _, .cons r t, .cons r' t' => by rw [r.inj r', Vals.inj t t']
section
variable {X : Cx} {pins : List (Addr × Obj)} {σ : St} {H : Hp} {s : Shared} {a : Addr} {xs ys : List V}
theorem SqL.of {K : PySem.W.Frag} (h : H a = some (.lst xs)) : SqL K H a xs := .inl (.inl h)
theorem SqT.of {K : PySem.W.Frag} (h : H a = some (.tup xs)) : SqT K H a xs := .inl (.inl h)
theorem Inv.list (I : Inv X pins σ H s) (h : SqL X.K H a xs) : ∃ its : List Value, Vals xs its ∧ PlainL s.heap a its.toArray ∧ xs.length ≤ sizeLine := by
  rcases h with h | ⟨o, its, n, hk, hc, hd, hs, hz, r⟩
  · obtain ⟨z, its, n, r, e⟩ := h.ok I.hok
    exact ⟨its, r, ⟨_, n, e, rfl, rfl, rfl⟩, z⟩
  · refine ⟨its.toList, r, ⟨o, n, I.kIn a o hk, hc, hd, by simpa using hs⟩, ?_⟩
    have e := r.length
    simp only [Array.length_toList] at e
    omega
theorem Inv.tuple (I : Inv X pins σ H s) (h : SqT X.K H a xs) : ∃ its : List Value, Vals xs its ∧ IsTup s.heap a its.toArray ∧ xs.length ≤ sizeLine := by
  rcases h with h | ⟨o, its, n, hk, hc, hs, hz, r⟩
  · obtain ⟨z, its, r, p⟩ := h.ok I.hok
    exact ⟨its, r, p, z⟩
  · refine ⟨its.toList, r, ⟨o, I.kIn a o hk, hc, n, by simpa using hs⟩, ?_⟩
    have e := r.length
    simp only [Array.length_toList] at e
    omega
theorem Inv.list_inj (I : Inv X pins σ H s) (h : SqL X.K H a xs) (h' : SqL X.K H a ys) : xs = ys := by
  obtain ⟨its, r, ⟨o, n, e, _, _, d⟩, _⟩ := I.list h
  obtain ⟨its', r', ⟨o', n', e', _, _, d'⟩, _⟩ := I.list h'
  rw [e] at e'; cases e'
  rw [d] at d'
  injection d' with d1 _
  have : its = its' := by simpa using congrArg Array.toList d1
  subst this
  exact r.inj r'
theorem Inv.tuple_inj (I : Inv X pins σ H s) (h : SqT X.K H a xs) (h' : SqT X.K H a ys) : xs = ys := by
  obtain ⟨its, r, ⟨o, e, _, n, d⟩, _⟩ := I.tuple h
  obtain ⟨its', r', ⟨o', e', _, n', d'⟩, _⟩ := I.tuple h'
  rw [e] at e'; cases e'
  rw [d] at d'
  injection d' with d1 _
  have : its = its' := by simpa using congrArg Array.toList d1
  subst this
  exact r.inj r'
end

/-! ### another wish about exceptions -/
abbrev Cx.wish (X : Cx) (E : Value → Shared → Prop) : Cx := { X with xe := E }
/-- no exception leaves -/
abbrev Cx.nox (X : Cx) : Cx := X.wish fun _ _ => False
theorem Cx.Ok.wish {X : Cx} (ok : X.Ok) (E : Value → Shared → Prop) : (X.wish E).Ok :=
  ⟨ok.mod, ok.kind, ok.glob, ok.blt, ok.above, ok.inj, ok.has, ok.cab, ok.hd, ok.frames, ok.stk, ok.exf, ok.bs, ok.bsz, ok.noex, ok.exfs, ok.funs, ok.frf⟩
theorem Cx.Ok.unwish {X : Cx} {E : Value → Shared → Prop} (ok : (X.wish E).Ok) : X.Ok :=
  ⟨ok.mod, ok.kind, ok.glob, ok.blt, ok.above, ok.inj, ok.has, ok.cab, ok.hd, ok.frames, ok.stk, ok.exf, ok.bs, ok.bsz, ok.noex, ok.exfs, ok.funs, ok.frf⟩
section
variable {X : Cx} {pins : List (Addr × Obj)} {σ : St} {H : Hp} {s : Shared} {E : Value → Shared → Prop}
theorem Inv.wish (I : Inv X pins σ H s) (E : Value → Shared → Prop) : Inv (X.wish E) pins σ H s := ⟨I.ok.wish E, I.os, I.bare, I.base, I.loc, I.cell, I.free, I.freeC, I.pin, I.hok, I.len⟩
theorem Inv.unwish (I : Inv (X.wish E) pins σ H s) : Inv X pins σ H s := ⟨I.ok.unwish, I.os, I.bare, I.base, I.loc, I.cell, I.free, I.freeC, I.pin, I.hok, I.len⟩
theorem SP.unwish {D : Ends} {f : Flow} {s' : Shared} (h : SP (X.wish E) pins D f s') : SP X pins D f s' := by
  cases f with
  | next => obtain ⟨σ', H', I, q⟩ := h; exact ⟨σ', H', I.unwish, q⟩
  | brk => obtain ⟨σ', H', I, q⟩ := h; exact ⟨σ', H', I.unwish, q⟩
  | cont => obtain ⟨σ', H', I, q⟩ := h; exact ⟨σ', H', I.unwish, q⟩
  | ret u => obtain ⟨v, σ', H', I, r, q⟩ := h; exact ⟨v, σ', H', I.unwish, r, q⟩
theorem PE.nox {e : Expr} {t : TE} (h : PE X.nox e t) : PE X e t := fun pins s σ H Q I hw =>
  wpAny_mono (h pins s σ H Q (I.wish _) hw) (fun _ _ ⟨v, H', I', r, q⟩ => ⟨v, H', I'.unwish, r, q⟩) fun _ _ z => False.elim z
theorem PT.nox {e : Expr} {t : TT} (h : PT X.nox e t) : PT X e t := fun pins s σ H Q I hw =>
  wpAny_mono (h pins s σ H Q (I.wish _) hw) (fun _ _ ⟨H', I', q⟩ => ⟨H', I'.unwish, q⟩) fun _ _ z => False.elim z
theorem PSs.nox {st : List Stmt} {t : TS} (h : PSs X.nox st t) : PSs X st t := fun pins s σ H D I hw =>
  wpAny_mono (h pins s σ H D (I.wish _) hw) (fun _ _ q => q.unwish) fun _ _ z => False.elim z
end

/-! ### blocks and small statements -/
section
variable {X : Cx} {st : Stmt} {rest : List Stmt} {t u : TS} {e : Expr} {te : TE} {pos : Pos}
def tNext : TS := fun D σ H => D.nx σ H
def tSeq (t u : TS) : TS := fun D σ H => t { D with nx := u D } σ H
theorem pss_nil : PSs X [] tNext := fun _ _ σ H _ I h => wpAny_execs_nil ⟨σ, H, I, h⟩
theorem pss_cons (h1 : PS X st t) (h2 : PSs X rest u) : PSs X (st :: rest) (tSeq t u) := by
  intro pins s σ H D I h
  refine wpAny_execs_cons (thn (h1 pins s σ H { D with nx := u D } I h) fun f s1 q => ?_)
  cases f with
  | next =>
    obtain ⟨σ', H', I', q⟩ := q
    exact h2 pins s1 σ' H' D I' q
  | ret v => exact q
  | brk => exact q
  | cont => exact q
theorem pss_one (h1 : PS X st t) : PSs X [st] t := by
  intro pins s σ H D I h
  refine wpAny_execs_cons (thn (h1 pins s σ H D I h) fun f s1 q => ?_)
  cases f with
  | next => exact wpAny_execs_nil q
  | ret v => exact q
  | brk => exact q
  | cont => exact q
def tBreak : TS := fun D σ H => D.bk σ H
def tCont : TS := fun D σ H => D.ct σ H
theorem ps_pass : PS X (.Pass pos) tNext := fun _ _ σ H _ I h => wpAny_Pass ⟨σ, H, I, h⟩
theorem ps_break : PS X (.Break pos) tBreak := fun _ _ σ H _ I h => wpAny_Break ⟨σ, H, I, h⟩
theorem ps_continue : PS X (.Continue pos) tCont := fun _ _ σ H _ I h => wpAny_Continue ⟨σ, H, I, h⟩
/-- in a def's body nothing is shown -/
theorem Inv.quiet {pins : List (Addr × Obj)} {σ : St} {H : Hp} {s : Shared} (I : Inv X pins σ H s) : interactive X.env = false := by simp [interactive, I.ok.kind]
/-- a docstring -/
theorem ps_doc {x j pos pos'} : PS X (.Expr (.Constant (.str x) j pos) pos') tNext := fun _ s σ H _ I h => wpAny_Expr (Calls.Constant_str (show SP X _ _ .next { s with toks := s.toks + 1 } from ⟨σ, H, I.tok _, h⟩)) I.quiet
/-- an expression whose value is dropped -/
def tDrop (te : TE) : TS := fun D σ H => te σ H fun _ H1 => D.nx σ H1
theorem ps_expr (he : PE X e te) (hs : swapsWith e none pos.line X.env = pure false := by rfl) : PS X (.Expr e pos) (tDrop te) := by
  intro pins s σ H D I h
  exact wpAny_Expr_any (thn (he pins s σ H _ I h) fun v s1 ⟨x, H1, I1, r1, q1⟩ => ⟨σ, H1, I1, q1⟩) I.quiet hs
def tRet (te : TE) : TS := fun D σ H => te σ H D.rt
theorem ps_ret (he : PE X e te) : PS X (.Return (some e) pos) (tRet te) := by
  intro pins s σ H D I h
  exact wpAny_Return_some (thn (he pins s σ H _ I h) fun v s1 ⟨x, H1, I1, r1, q1⟩ => ⟨x, σ, H1, I1, r1, q1⟩)
def tRetN : TS := fun D _ H => D.rt .non H
theorem ps_retN : PS X (.Return none pos) tRetN := fun _ _ σ H _ I h => wpAny_Return_none ⟨.non, σ, H, I, rfl, h⟩
def tIfS (c : TT) (t u : TS) : TS := fun D σ H => c σ H fun b H1 => if b = true then t D σ H1 else u D σ H1
theorem ps_if {c : Expr} {a b : List Stmt} {tc : TT} (hc : PT X c tc) (ha : PSs X a t) (hb : PSs X b u) : PS X (.If c a b pos) (tIfS tc t u) := by
  intro pins s σ H D I h
  refine wpAny_If (thn (hc pins s σ H _ I h) fun d s1 ⟨H1, I1, q1⟩ => ?_)
  cases d with
  | true => exact ha pins s1 σ H1 D I1 q1
  | false => exact hb pins s1 σ H1 D I1 q1
/-- code that the proof never comes to -/
def tNever : TS := fun _ _ _ => False
theorem ps_never : PS X st tNever := fun _ _ _ _ _ _ h => h.elim
theorem pss_never {sts : List Stmt} : PSs X sts tNever := fun _ _ _ _ _ _ h => h.elim
end

/-! ### targets -/
abbrev TG := V → St → Hp → (St → Hp → Prop) → Prop
abbrev TGs := List V → St → Hp → (St → Hp → Prop) → Prop
def PG (X : Cx) (target : Expr) (t : TG) : Prop :=
  ∀ (pins : List (Addr × Obj)) (s : Shared) (σ : St) (H : Hp) (v : V) (u : Value) (Q : St → Hp → Prop), Inv X pins σ H s → RelV v u → t v σ H Q →
    wpAny (model X.prog X.w) X.A (assign target X.env u) (fun _ s' => ∃ σ' H', Inv X pins σ' H' s' ∧ Q σ' H') X.xe s
/-- several targets, one after another -/
def PGs (X : Cx) (ts : List Expr) (t : TGs) : Prop :=
  ∀ (pins : List (Addr × Obj)) (s : Shared) (σ : St) (H : Hp) (vs : List V) (us : List Value) (Q : St → Hp → Prop), Inv X pins σ H s → Vals vs us → t vs σ H Q →
    wpAny (model X.prog X.w) X.A (assignInOrder ((assignEach ts X.env).map (·.2)) us) (fun _ s' => ∃ σ' H', Inv X pins σ' H' s' ∧ Q σ' H') X.xe s
/-- o[i] = v, by values -/
abbrev TSet := V → V → V → Hp → (Hp → Prop) → Prop
def PSet (X : Cx) (t : TSet) : Prop :=
  ∀ (pins : List (Addr × Obj)) (s : Shared) (σ : St) (H : Hp) (o i v : V) (ov iv u : Value) (Q : Hp → Prop), Inv X pins σ H s → RelV o ov → RelV i iv → RelV v u → t o i v H Q →
    wpAny (model X.prog X.w) X.A (setItem ov iv u) (fun _ s' => ∃ H', Inv X pins σ H' s' ∧ Q H') X.xe s
/-- a op= b, by values -/
abbrev TIp := V → V → Hp → VK → Prop
def PIp (X : Cx) (op : Operator) (t : TIp) : Prop :=
  ∀ (pins : List (Addr × Obj)) (s : Shared) (σ : St) (H : Hp) (x y : V) (v u : Value) (Q : VK), Inv X pins σ H s → RelV x v → RelV y u → t x y H Q →
    wpAny (model X.prog X.w) X.A (inplaceOp op v u) (EP X pins σ Q) X.xe s
section
variable {X : Cx} {pos : Pos}
def gName (i : Nat) : TG := fun v σ H Q => Q (σ.set i (some v)) H
theorem pg_name {i : Nat} {x : Str} (hN : X.N.Nodup) (hi : X.N[i]? = some x) (hx : Loc X.env.scope x) (hf : X.fn x = true ∨ X.env.scope.names.lookup x = some .local := by first | exact .inl rfl | exact .inr rfl | assumption) : PG X (.Name x pos) (gName i) := by
  intro pins s σ H v u Q I r h
  exact wpAny_assign_Name (store_ok I hN hi hx r (fun s' I' => ⟨_, H, I', h⟩) hf)
def gNil : TGs := fun vs σ H Q => vs = [] ∧ Q σ H
def gCons (t : TG) (u : TGs) : TGs := fun vs σ H Q => ∃ v r, vs = v :: r ∧ t v σ H fun σ' H' => u r σ' H' Q
theorem pgs_nil : PGs X [] gNil := by
  intro pins s σ H vs us Q I r h
  obtain ⟨e, h⟩ := h
  subst e
  cases r
  exact assignInOrder_nil ⟨σ, H, I, h⟩
theorem pgs_cons {e : Expr} {es : List Expr} {t : TG} {u : TGs} (h1 : PG X e t) (h2 : PGs X es u)
    (hs : (assignEach (e :: es) X.env).map (·.2) = assign e X.env :: (assignEach es X.env).map (·.2) := by rfl) : PGs X (e :: es) (gCons t u) := by
  intro pins s σ H vs us Q I r h
  obtain ⟨v, vr, e1, h⟩ := h
  subst e1
  cases r with
  | cons r rr =>
    rw [hs]
    refine assignInOrder_cons (thn (h1 pins s σ H _ _ _ I r h) fun _ s1 ⟨σ1, H1, I1, q1⟩ => ?_)
    exact h2 pins s1 σ1 H1 _ _ Q I1 rr q1
/-- (a, b, ..) = a tuple of that length -/
def gTup (K : PySem.W.Frag) (n : Nat) (t : TGs) : TG := fun v σ H Q => ∃ a xs, v = .ref a ∧ SqT K H a xs ∧ xs.length = n ∧ t xs σ H Q
theorem pg_tup {es : List Expr} {k : Nat} {t : TGs} {n : Nat} (hc : X.calm = true) (h : PGs X es t)
    (hn : (assignEach es X.env).length = n := by rfl) (hst : (assignEach es X.env).findIdx? (·.1) = none := by rfl) : PG X (.Tuple es k pos) (gTup X.K n t) := by
  intro pins s σ H v u Q I r hw
  obtain ⟨a, xs, e1, hq, hl, hw⟩ := hw
  subst e1
  cases r
  obtain ⟨its, rv, ht, hz⟩ := I.tuple hq
  refine assign_Tuple_tuple (I.ok.hd hc) ht (by simp [hn, ← hl, rv.length]) hst fun h' hx => ?_
  have I1 : Inv X pins σ H { s with heap := h' } := I.kept (t' := s.toks) fun b o e => hx b o (Nat.ne_of_lt (Heap.lt_size e)) e
  exact h pins _ σ H xs _ Q I1 (by simpa using rv) hw
/-- o[i] = .. -/
def gSub (to ti : TE) (t : TSet) : TG := fun v σ H Q => to σ H fun o H1 => ti σ H1 fun i H2 => t o i v H2 fun H3 => Q σ H3
theorem pg_sub {o i : Expr} {to ti : TE} {t : TSet} (ho : PE X o to) (hi : PE X i ti) (hs : PSet X t)
    (ha : ∀ v, assign (.Subscript o i pos) X.env v = (do
      let ov ← holding [v] (eval o X.env)
      let iv ← holding [v, ov] (eval i X.env)
      standAt pos
      holding [v, ov, iv] (setItem ov iv v)
      release [v, ov, iv] []) := by intro _; rfl) : PG X (.Subscript o i pos) (gSub to ti t) := by
  intro pins s σ H v u Q I r h
  rw [ha]
  refine wpAny_bind (wpAny_holding (thn (ho pins s σ H _ I h) fun ov s1 ⟨x, H1, I1, r1, q1⟩ => ?_))
  refine wpAny_bind (wpAny_holding (thn (hi pins s1 σ H1 _ I1 q1) fun iv s2 ⟨y, H2, I2, r2, q2⟩ => ?_))
  refine wpAny_bind (wpAny_standAt (wpAny_bind (wpAny_holding (thn (hs pins s2 σ H2 x y v ov iv u _ I2 r1 r2 r q2) fun _ s3 ⟨H3, I3, q3⟩ => ?_))))
  exact wpAny_release ⟨σ, H3, I3, q3⟩
/-- target = value -/
def tAsg (te : TE) (g : TG) : TS := fun D σ H => te σ H fun x H1 => g x σ H1 D.nx
theorem ps_asg {tg e : Expr} {te : TE} {g : TG} (he : PE X e te) (hg : PG X tg g) (hs : swapsWithSole [tg] e pos.line X.env = pure false := by rfl) (hw : swappedStores [tg] e X.env = pure none := by rfl)
    (h1 : (assignEach [tg] X.env).map (·.2) = [assign tg X.env] := by rfl) : PS X (.Assign [tg] e pos) (tAsg te g) := by
  intro pins s σ H D I h
  refine wpAny_Assign_stores (thn (he pins s σ H _ I h) fun v s1 ⟨x, H1, I1, r1, q1⟩ => ?_) hs hw
  rw [h1]
  exact thn (hg pins s1 σ H1 x v _ I1 r1 q1) fun _ s2 q => q
/-- name = value -/
theorem ps_set {i : Nat} {x : Str} {e : Expr} {te : TE} {pos' : Pos} (hN : X.N.Nodup) (hi : X.N[i]? = some x) (hx : Loc X.env.scope x) (he : PE X e te) (hs : swapsWith e (some (.Name x pos')) pos.line X.env = pure false := by rfl) (hf : X.fn x = true ∨ X.env.scope.names.lookup x = some .local := by first | exact .inl rfl | exact .inr rfl | assumption) :
    PS X (.Assign [.Name x pos'] e pos) (tAsg te (gName i)) := by
  intro pins s σ H D I h
  refine wpAny_Assign_Name (thn (he pins s σ H _ I h) fun v s1 ⟨y, H1, I1, r1, q1⟩ => ?_) hs
  exact store_ok I1 hN hi hx r1 (fun s2 I2 => ⟨_, H1, I2, q1⟩) hf
/-- a, b = x, y with plain local names: stored from the right; the pair itself is not tracked (the opening rows as in PyProof/Rows/TupAssign.lean:23) -/
def tPar (i j : Nat) (ta : TA) : TS := fun D σ H => ta σ H fun vs H1 => ∃ v w, vs = [v, w] ∧ D.nx ((σ.set i (some v)).set j (some w)) H1
theorem ps_par {i j : Nat} {x y : Str} {a b : Expr} {ta : TA} {px py pt : Pos} {kt k2 pt2} (hc : X.calm = true) (hN : X.N.Nodup) (hi : X.N[i]? = some x) (hj : X.N[j]? = some y) (hij : i ≠ j)
    (hx : X.env.scope.names.lookup x = some .local) (hy : X.env.scope.names.lookup y = some .local) (ha : PA X [a, b] ta)
    (hw : swappedStores [.Tuple [.Name x px, .Name y py] kt pt] (.Tuple [a, b] k2 pt2) X.env = pure (some [x, y]))
    (hs : swapsWithSole [.Tuple [.Name x px, .Name y py] kt pt] (.Tuple [a, b] k2 pt2) pos.line X.env = pure false := by rfl) :
    PS X (.Assign [.Tuple [.Name x px, .Name y py] kt pt] (.Tuple [a, b] k2 pt2) pos) (tPar i j ta) := by
  intro pins s σ H D I h
  rw [exec_Assign_arm]
  refine wpAny_bind (wpAny_standAt ?_)
  rw [hs]
  refine wpAny_bind (wpAny_pure ?_)
  rw [if_neg (by decide)]
  refine wpAny_bind (Tuple_ (thn (ha _ pins s σ H _ I h) fun us s1 ⟨vs, H1, I1, r1, q1⟩ => ?_))
  obtain ⟨v, w, e1, q1⟩ := q1
  subst e1
  obtain ⟨u1, u2, rfl, rv, rw'⟩ : ∃ u1 u2, us = [u1, u2] ∧ RelV v u1 ∧ RelV w u2 := by
    cases r1 with
    | cons p q =>
      cases q with
      | cons p' q' =>
        cases q'
        exact ⟨_, _, rfl, p, p'⟩
  refine wpAny_newObj_type ?_ (by show 2 ≤ sizeLine; decide)
  have I2 : Inv X pins σ H1 { s1 with heap := s1.heap.push { cls := .type "tuple", data := .seq [u1, u2].toArray } } := I1.kept (t' := s1.toks) fun b o e => Heap.get?_push_of_some _ e
  rw [hw]
  refine wpAny_bind (wpAny_pure ?_)
  show wpAny (model X.prog X.w) X.A (do rule "assign.swapped-stores"; let items ← unpackItems (.ref s1.heap.objs.size) 2 none; assignInOrder [fun v => bindName X.env y v, fun v => bindName X.env x v] items.reverse; pure Flow.next) _ _ _
  refine wpAny_bind (wpAny_rule (wpAny_bind (unpackItems_tuple (items := #[u1, u2]) (I.ok.hd hc) (IsTup.new s1.heap _) fun h' hx' => ?_)))
  have I3 := I2.kept (h' := h') (t' := s1.toks) fun b o e => hx' b o (Nat.ne_of_lt (Heap.lt_size e)) e
  show wpAny _ _ (assignInOrder [fun v => bindName X.env y v, fun v => bindName X.env x v] [u2, u1] >>= fun _ => pure Flow.next) _ _ _
  refine wpAny_bind (assignInOrder_cons (wpAny_bindName (store_ok I3 hN hj (.inl hy) rw' (fun s2 I4 => ?_) (.inr hy))))
  refine assignInOrder_cons (wpAny_bindName (store_ok I4 hN hi (.inl hx) rv (fun s3 I5 => assignInOrder_nil (wpAny_pure ?_)) (.inr hx)))
  rw [List.set_comm _ _ (Ne.symm hij)] at I5
  exact ⟨_, H1, I5, q1⟩
/-- name op= e -/
def tAug (i : Nat) (te : TE) (ti : TIp) : TS := fun D σ H => ∃ x, σ[i]? = some (some x) ∧ te σ H fun y H1 => ti x y H1 fun z H2 => D.nx (σ.set i (some z)) H2
theorem ps_aug {i : Nat} {x : Str} {e : Expr} {te : TE} {op : Operator} {ti : TIp} {pos' : Pos} (hN : X.N.Nodup) (hi : X.N[i]? = some x) (hx : Loc X.env.scope x) (he : PE X e te) (ho : PIp X op ti) (hf : X.fn x = true ∨ X.env.scope.names.lookup x = some .local := by first | exact .inl rfl | exact .inr rfl | assumption) :
    PS X (.AugAssign (.Name x pos') op e pos) (tAug i te ti) := by
  intro pins s σ H D I h
  obtain ⟨v, e1, h⟩ := h
  obtain ⟨m, hn, hl⟩ := I.loc
  have vis : Vis X.env.scope x := by rcases hx with k | k; exact .inl k; exact .inr (.inl k)
  obtain ⟨u, r, l⟩ := hl i x v hi e1 vis
  refine wpAny_AugAssign_Name ?_
  have go : wpAny (model X.prog X.w) X.A (eval e X.env) (fun w s₂ => wpAny (model X.prog X.w) X.A (inplaceOp op u w) (fun r s₃ => wpAny (model X.prog X.w) X.A (storeName X.env x r) (fun _ => SP X pins D .next) X.xe s₃) X.xe s₂) X.xe s := by
    refine thn (he pins s σ H _ I h) fun w s1 ⟨y, H1, I1, r1, q1⟩ => ?_
    refine thn (ho pins s1 σ H1 v y u w _ I1 r r1 q1) fun z s2 ⟨zv, H2, I2, r2, q2⟩ => ?_
    exact store_ok I2 hN hi hx r2 (fun s3 I3 => ⟨_, H2, I3, q2⟩) hf
  rcases l with ⟨hk, hm⟩ | ⟨hk, c, hc, hcell⟩
  · exact wpAny_loadName_local I.ok.kind hk hn hm go
  · rcases hk with hk | hk
    · exact wpAny_loadName_cell I.ok.kind hk hc hcell go
    · rcases hx with k | k
      · have : X.env.scope.names.lookup x = some .free := hk
        rw [k] at this; cases this
      · have : X.env.scope.names.lookup x = some .free := hk
        rw [k] at this; cases this
/-- o[i] op= e -/
def tAugS (to ti te : TE) (tget : V → V → Hp → VK → Prop) (tip : TIp) (tset : TSet) : TS := fun D σ H => to σ H fun o H1 => ti σ H1 fun i H2 => tget o i H2 fun x H3 => te σ H3 fun y H4 => tip x y H4 fun z H5 => tset o i z H5 fun H6 => D.nx σ H6
/-- o[i], by values -/
def PGet (X : Cx) (t : V → V → Hp → VK → Prop) : Prop :=
  ∀ (pins : List (Addr × Obj)) (s : Shared) (σ : St) (H : Hp) (o i : V) (ov iv : Value) (Q : VK), Inv X pins σ H s → RelV o ov → RelV i iv → t o i H Q →
    wpAny (model X.prog X.w) X.A (getItem ov iv) (EP X pins σ Q) X.xe s
theorem ps_augS {o i e : Expr} {to ti te : TE} {tget : V → V → Hp → VK → Prop} {tip : TIp} {tset : TSet} {op : Operator} {tpos : Pos} (ho : PE X o to) (hi : PE X i ti) (hg : PGet X tget) (he : PE X e te) (hp : PIp X op tip) (hs : PSet X tset)
    (ha : ∀ ov iv new, augStore i ov iv new = (do holding [new, ov, iv] (setItem ov iv new); release [new, ov, iv] []; pure .next) := by intros; rfl) : PS X (.AugAssign (.Subscript o i tpos) op e pos) (tAugS to ti te tget tip tset) := by
  intro pins s σ H D I h
  refine wpAny_AugAssign_SubscriptAny (thn (ho pins s σ H _ I h) fun ov s1 ⟨x1, H1, I1, r1, q1⟩ => ?_) ha
  refine thn (hi pins s1 σ H1 _ I1 q1) fun iv s2 ⟨x2, H2, I2, r2, q2⟩ => ?_
  refine thn (hg pins s2 σ H2 x1 x2 ov iv _ I2 r1 r2 q2) fun old s3 ⟨x3, H3, I3, r3, q3⟩ => ?_
  refine thn (he pins s3 σ H3 _ I3 q3) fun v s4 ⟨x4, H4, I4, r4, q4⟩ => ?_
  refine thn (hp pins s4 σ H4 x3 x4 old v _ I4 r3 r4 q4) fun new s5 ⟨x5, H5, I5, r5, q5⟩ => ?_
  exact thn (hs pins s5 σ H5 x1 x2 x5 ov iv new _ I5 r1 r2 r5 q5) fun _ s6 ⟨H6, I6, q6⟩ => ⟨σ, H6, I6, q6⟩
/-- ints -/
def ipI (f : Int → Int → Int) : TIp := fun x y H Q => ∃ i j, x = .int i ∧ y = .int j ∧ Q (.int (f i j)) H
theorem ip_add : PIp X .Add (ipI fun i j => i + j) := by
  intro pins s σ H x y v u Q I r1 r2 h
  obtain ⟨i, j, e1, e2, q⟩ := h
  subst e1; subst e2
  obtain ⟨t, rfl⟩ := r1
  obtain ⟨t', rfl⟩ := r2
  exact iadd_int ⟨.int _, H, I.tok _, ⟨_, rfl⟩, q⟩
theorem ip_sub : PIp X .Sub (ipI fun i j => i - j) := by
  intro pins s σ H x y v u Q I r1 r2 h
  obtain ⟨i, j, e1, e2, q⟩ := h
  subst e1; subst e2
  obtain ⟨t, rfl⟩ := r1
  obtain ⟨t', rfl⟩ := r2
  exact isub_int ⟨.int _, H, I.tok _, ⟨_, rfl⟩, q⟩
end

/-! ### while -/
section
variable {X : Cx} {pos : Pos}
/-- the invariant W with its measure -/
def tWhile (c : TT) (tb : TS) : TS := fun D σ H => ∃ W : Nat → St → Hp → Prop, (∃ m, W m σ H) ∧ ∀ m σ H, W m σ H →
  c σ H fun b H1 => if b = true then ∃ N : St → Hp → Prop, (∀ σ' H', N σ' H' → ∃ m', m' < m ∧ W m' σ' H') ∧ tb { D with nx := N, ct := N, bk := D.nx } σ H1 else D.nx σ H1
theorem ps_while {c : Expr} {body : List Stmt} {tc : TT} {tb : TS} (hp : PassesOwn (model X.prog X.w) X.A X.env X.xe) (hc : PT X c tc) (hb : PSs X body tb) : PS X (.While c body [] pos) (tWhile tc tb) := by
  intro pins s σ H D I h
  obtain ⟨W, ⟨m0, w0⟩, turn⟩ := h
  refine wpAny_While (codeAny_whileLoop (fun n s' => ∃ σ' H', Inv X pins σ' H' s' ∧ W n σ' H') ?_ m0 ⟨σ, H, I, w0⟩)
  rintro n s1 ⟨σ1, H1, I1, w1⟩
  refine wpAny_passesOwn hp (thn (hc pins s1 σ1 H1 _ I1 (turn n σ1 H1 w1)) fun b s2 ⟨H2, I2, q2⟩ => ?_)
  cases b with
  | true =>
    obtain ⟨N, hN, q2⟩ := q2
    rw [if_pos rfl]
    refine wpAny_passesOwn hp (thn (hb pins s2 σ1 H2 _ I2 q2) fun f s3 q3 => ?_)
    cases f with
    | next =>
      obtain ⟨σ3, H3, I3, n3⟩ := q3
      obtain ⟨m', hm, w3⟩ := hN σ3 H3 n3
      exact ⟨m', hm, σ3, H3, I3, w3⟩
    | cont =>
      obtain ⟨σ3, H3, I3, n3⟩ := q3
      obtain ⟨m', hm, w3⟩ := hN σ3 H3 n3
      exact ⟨m', hm, σ3, H3, I3, w3⟩
    | brk => exact q3
    | ret v => exact q3
  | false =>
    rw [if_neg Bool.false_ne_true]
    exact wpAny_execs_nil ⟨σ1, H2, I2, q2⟩
end

/-! ### what a loop or a comprehension walks -/
/-- at turn i: it yields x (the heap may grow), or it stops -/
structure It where
  go : Nat → Hp → Prop
  yld : Nat → Hp → V → Hp → Prop
  stop : Nat → Hp → Prop
/-- the iterator's own objects may turn: they are not the frame's, not pinned, younger than the entry (or a comprehension's own) -/
def FpOk (X : Cx) (pins : List (Addr × Obj)) (H : Hp) (b : Addr) : Prop :=
  H b = none ∧ b ≠ X.env.locals ∧ b ∉ X.fs ∧ (b ∈ X.ex ∨ X.s₀.heap.objs.size ≤ b) ∧ (∀ x c, X.env.cells.lookup x = some c → c ≠ b) ∧ ∀ p ∈ X.pn ++ pins, p.1 ≠ b
theorem Inv.fpOk {X : Cx} {pins : List (Addr × Obj)} {σ : St} {H H' : Hp} {s : Shared} {b : Addr} (I : Inv X pins σ H s) (hb : s.heap.objs.size ≤ b) (hn : H' b = none) : FpOk X pins H' b := by
  refine ⟨hn, Nat.ne_of_gt (Nat.lt_of_lt_of_le I.lt hb), I.nofs hb, .inr (Nat.le_trans I.sz hb), fun x c e z => ?_, fun p hp z => ?_⟩
  · obtain ⟨v, q⟩ := I.cell x c e
    exact absurd (Nat.lt_of_lt_of_le q.lt (by rw [z]; exact hb)) (Nat.lt_irrefl _)
  · exact absurd (Nat.lt_of_lt_of_le (Heap.lt_size (I.pin p hp).1) (by rw [z]; exact hb)) (Nat.lt_irrefl _)
structure Turn (P : Program) (w : World) (K : PySem.W.Frag) (tg : Expr) (J : It) (fp : List Addr) (it : Addr) (tn : Nat → Heap → Prop) : Prop where
  mem : it ∈ fp
  obj : ∀ i h, tn i h → ∀ b ∈ fp, ∃ o, h.get? b = some o ∧ ∀ v, o.data ≠ .cell v
  keep : ∀ i h h', tn i h → (∀ b ∈ fp, ∀ o, h.get? b = some o → h'.get? b = some o) → tn i h'
  item : ∀ (X : Cx), X.prog = P → X.w = w → X.K = K → X.calm = true → ∀ (i : Nat) (pins : List (Addr × Obj)) (s : Shared) (σ : St) (H : Hp) (E : Value → Shared → Prop), Inv X pins σ H s → (∀ b ∈ fp, FpOk X pins H b) → tn i s.heap → J.go i H →
    wpAny (model P w) X.A (pyNext (.ref it)) (fun r s1 => ∃ u, r = some u ∧
      wpAny (model P w) X.A (letOwnedTupleGo tg (.ref it) u) (fun _ s2 => ∃ x H', Inv X pins σ H' s2 ∧ RelV x u ∧ J.yld i H x H' ∧ tn (i + 1) s2.heap ∧ ∀ b ∈ fp, H' b = none) E s1) E s
  done : ∀ (X : Cx), X.prog = P → X.w = w → X.K = K → X.calm = true → ∀ (i : Nat) (pins : List (Addr × Obj)) (s : Shared) (σ : St) (H : Hp) (E : Value → Shared → Prop), Inv X pins σ H s → (∀ b ∈ fp, FpOk X pins H b) → tn i s.heap → J.stop i H →
    wpAny (model P w) X.A (pyNext (.ref it)) (fun r s1 => r = none ∧ Inv X pins σ H s1) E s
  self : ∀ (A : Around) (i : Nat) (s : Shared) (Q : Value → Shared → Prop) (E : Value → Shared → Prop), tn i s.heap → Q (.ref it) s → wpAny (model P w) A (pyIter (.ref it)) Q E s
abbrev TI := St → Hp → (It → Hp → Prop) → Prop
/-- an iterator has come -/
def PIE (X : Cx) (pins : List (Addr × Obj)) (σ : St) (tg : Expr) (R : It → Hp → Prop) (itv : Value) (s2 : Shared) : Prop :=
  ∃ (it : Addr) (fp : List Addr) (tn : Nat → Heap → Prop) (J : It) (H' : Hp), itv = .ref it ∧ Inv X pins σ H' s2 ∧ Turn X.prog X.w X.K tg J fp it tn ∧ tn 0 s2.heap ∧ (∀ b ∈ fp, FpOk X pins H' b) ∧ R J H'
def PI (X : Cx) (tg iter : Expr) (wi : TI) : Prop :=
  ∀ (pins : List (Addr × Obj)) (s : Shared) (σ : St) (H : Hp) (R : It → Hp → Prop), Inv X pins σ H s → wi σ H R →
    wpAny (model X.prog X.w) X.A (eval iter X.env) (fun v s1 => wpAny (model X.prog X.w) X.A (pyIter v) (PIE X pins σ tg R) X.xe s1) X.xe s

/-- the step ahead of the store is nothing for an iterator that keeps no tuple -/
theorem go_of {M : Model} {A : Around} {E : Value → Shared → Prop} {s : Shared} {tg : Expr} {it : Addr} {u : Value} {o : Obj} {n : String} {vs : Array Value} {Q : Unit → Shared → Prop} (ho : s.heap.get? it = some o) (hc : o.cls = .type n) (hd : o.data = .fields vs)
    (hn : ["enumerate", "zip", "dict_itemiterator", "dict_reverseitemiterator", "odict_iterator", "itertools.zip_longest", "itertools.pairwise"].contains n = false) (hQ : Q () s) : wpAny M A (letOwnedTupleGo tg (.ref it) u) Q E s := by
  unfold letOwnedTupleGo
  cases tg <;> first
    | exact wpAny_pure hQ
    | (cases u <;> first
        | exact wpAny_pure hQ
        | (refine wpAny_bind (wpAny_load ho ?_)
           rw [hc, hd]
           show wpAny M A (if (["enumerate", "zip", "dict_itemiterator", "dict_reverseitemiterator", "odict_iterator", "itertools.zip_longest", "itertools.pairwise"].contains n && vs[0]? == some (rawInt _)) = true then _ else _) Q E s
           rw [if_neg (by intro h; rw [hn, Bool.false_and] at h; cases h)]
           exact wpAny_pure hQ))

/-- the list at a, as it stands at each turn (a loop may append to it) -/
def Itl (K : PySem.W.Frag) (a : Addr) : It :=
  ⟨fun i H => ∃ xs x, SqL K H a xs ∧ xs[i]? = some x, fun i H x H' => H' = H ∧ ∀ xs, SqL K H a xs → xs[i]? = some x, fun i H => ∃ xs, SqL K H a xs ∧ xs.length ≤ i⟩
def Itt (K : PySem.W.Frag) (a : Addr) : It :=
  ⟨fun i H => ∃ xs x, SqT K H a xs ∧ xs[i]? = some x, fun i H x H' => H' = H ∧ ∀ xs, SqT K H a xs → xs[i]? = some x, fun i H => ∃ xs, SqT K H a xs ∧ xs.length ≤ i⟩
/-- lo, lo + 1, .. (n of them) -/
def Itr (lo : Int) (n : Nat) : It := ⟨fun i _ => i < n, fun i H x H' => H' = H ∧ x = .int (lo + i), fun i _ => n ≤ i⟩
theorem turn_list {P : Program} {w : World} {K : PySem.W.Frag} {tg : Expr} (a it : Addr) : Turn P w K tg (Itl K a) [it] it (fun i h => h.IsListIter it a i) where
  mem := by simp
  obj := fun i h st b hb => by
    have e : b = it := by simpa using hb
    subst e
    obtain ⟨o, e, c, d⟩ := st
    exact ⟨o, e, fun v z => by rw [d] at z; cases z⟩
  keep := fun i h h' st k => st.at fun o e => k it (by simp) o e
  item := by
    intro X hP hw hK hc i pins s σ H E I hf st hg
    subst hP hw hK
    obtain ⟨xs, x, hq, hx⟩ := hg
    obtain ⟨its, rv, p, hz⟩ := I.list hq
    obtain ⟨u, hu, ru⟩ := rv.get hx
    obtain ⟨f0, f1, f2, f3, f4, f5⟩ := hf it (by simp)
    refine wpAny_pyNext_list_item st p.isList (x := u) (by simpa using hu) fun h' st' sb => ?_
    have I1 : Inv X pins σ H { s with heap := h' } := I.turned (t' := s.toks) (fun b o hb e => (sb.2 b hb).trans e) f0 f1 f3 f4 f5
    obtain ⟨o, e, c, d⟩ := id st'
    exact ⟨u, rfl, go_of (s := { s with heap := h' }) e c d (by decide) ⟨x, H, I1, ru, ⟨rfl, fun ys hy => by rw [I.list_inj hy hq]; exact hx⟩, st', fun b hb => (hf b hb).1⟩⟩
  done := by
    intro X hP hw hK hc i pins s σ H E I hf st hg
    subst hP hw hK
    obtain ⟨xs, hq, hx⟩ := hg
    obtain ⟨its, rv, p, hz⟩ := I.list hq
    obtain ⟨f0, f1, f2, f3, f4, f5⟩ := hf it (by simp)
    have hl := rv.length
    exact wpAny_pyNext_list_end (I.ok.hd hc) st p.isList (by simp; omega) fun h' eb => ⟨rfl, I.turned (t' := s.toks) (fun b o hb e => eb b o hb e) f0 f1 f3 f4 f5⟩
  self := fun _ _ _ _ _ st h => wpAny_pyIter_listiter st h
theorem turn_tuple {P : Program} {w : World} {K : PySem.W.Frag} {tg : Expr} (a it : Addr) : Turn P w K tg (Itt K a) [it] it (fun i h => h.IsTupleIter it a i) where
  mem := by simp
  obj := fun i h st b hb => by
    have e : b = it := by simpa using hb
    subst e
    obtain ⟨o, e, c, d⟩ := st
    exact ⟨o, e, fun v z => by rw [d] at z; cases z⟩
  keep := fun i h h' st k => st.at fun o e => k it (by simp) o e
  item := by
    intro X hP hw hK hc i pins s σ H E I hf st hg
    subst hP hw hK
    obtain ⟨xs, x, hq, hx⟩ := hg
    obtain ⟨its, rv, p, hz⟩ := I.tuple hq
    obtain ⟨u, hu, ru⟩ := rv.get hx
    obtain ⟨f0, f1, f2, f3, f4, f5⟩ := hf it (by simp)
    refine wpAny_pyNext_tuple_item st (show s.heap.IsTuple a its.toArray from p) (x := u) (by simpa using hu) fun h' st' sb => ?_
    have I1 : Inv X pins σ H { s with heap := h' } := I.turned (t' := s.toks) (fun b o hb e => (sb.2 b hb).trans e) f0 f1 f3 f4 f5
    obtain ⟨o, e, c, d⟩ := id st'
    exact ⟨u, rfl, go_of (s := { s with heap := h' }) e c d (by decide) ⟨x, H, I1, ru, ⟨rfl, fun ys hy => by rw [I.tuple_inj hy hq]; exact hx⟩, st', fun b hb => (hf b hb).1⟩⟩
  done := by
    intro X hP hw hK hc i pins s σ H E I hf st hg
    subst hP hw hK
    obtain ⟨xs, hq, hx⟩ := hg
    obtain ⟨its, rv, p, hz⟩ := I.tuple hq
    obtain ⟨f0, f1, f2, f3, f4, f5⟩ := hf it (by simp)
    have hl := rv.length
    exact wpAny_pyNext_tuple_end (I.ok.hd hc) st (show s.heap.IsTuple a its.toArray from p) (by simp; omega) fun h' eb => ⟨rfl, I.turned (t' := s.toks) (fun b o hb e => eb b o hb e) f0 f1 f3 f4 f5⟩
  self := fun _ _ _ _ _ st h => wpAny_pyIter_tupleiter st h
theorem turn_range {P : Program} {w : World} {K : PySem.W.Frag} {tg : Expr} (it : Addr) (lo : Int) (n : Nat) : Turn P w K tg (Itr lo n) [it] it (fun i h => IsRangeIter h it (lo + (i : Nat) * 1) ((n : Int) - (i : Nat)) 1) where
  mem := by simp
  obj := fun i h st b hb => by
    have e : b = it := by simpa using hb
    subst e
    exact ⟨_, st, fun v z => by
      have z' : Data.fields _ = Data.cell v := z
      cases z'⟩
  keep := fun i h h' st k => k it (by simp) _ st
  item := by
    intro X hP hw hK hc i pins s σ H E I hf st hg
    subst hP hw hK
    obtain ⟨f0, f1, f2, f3, f4, f5⟩ := hf it (by simp)
    have W := Walks.range (prog := X.prog) (w := X.w) (I.ok.hd hc) it lo 1 n
    refine W.item i s _ _ hg st fun v h' tk hv st' kk => ?_
    obtain ⟨t, rfl⟩ := hv
    have I1 : Inv X pins σ H { s with heap := h', toks := tk } := I.turned (fun b o hb e => kk b o (by simpa using hb) e) f0 f1 f3 f4 f5
    refine ⟨_, rfl, go_of (s := { s with heap := h', toks := tk }) (n := "range_iterator") st' rfl rfl (by decide) ⟨.int (lo + i), H, I1, ⟨t, ?_⟩, ⟨rfl, rfl⟩, st', fun b hb => (hf b hb).1⟩⟩
    rw [Int.mul_one]
  done := by
    intro X hP hw hK hc i pins s σ H E I hf st hg
    subst hP hw hK
    obtain ⟨f0, f1, f2, f3, f4, f5⟩ := hf it (by simp)
    exact wpAny_pyNext_range_end (I.ok.hd hc) st (by have : n ≤ i := hg; omega) fun h' eb => ⟨rfl, I.turned (t' := s.toks) (fun b o hb e => eb b o hb e) f0 f1 f3 f4 f5⟩
  self := fun _ _ _ _ _ st h => wpAny_pyIter_rangeiter st h
end L2

namespace L2
open PySem PySem.Spec PyProof.Rows
section
variable {X : Cx} {tg : Expr}
def iList (K : PySem.W.Frag) (tl : TE) : TI := fun σ H R => tl σ H fun x H1 => ∃ a, x = .ref a ∧ (∃ xs, SqL K H1 a xs) ∧ R (Itl K a) H1
def iTup (K : PySem.W.Frag) (tl : TE) : TI := fun σ H R => tl σ H fun x H1 => ∃ a, x = .ref a ∧ (∃ xs, SqT K H1 a xs) ∧ R (Itt K a) H1
theorem pi_list {l : Expr} {tl : TE} (hl : PE X l tl) : PI X tg l (iList X.K tl) := by
  intro pins s σ H R I h
  refine thn (hl pins s σ H _ I h) fun v s1 ⟨x, H1, I1, r1, q1⟩ => ?_
  obtain ⟨a, e, ⟨xs, hq⟩, q⟩ := q1
  subst e
  cases r1
  obtain ⟨its, rv, p, hz⟩ := I1.list hq
  refine wpAny_pyIter_list p.isList ?_
  refine ⟨s1.heap.objs.size, [s1.heap.objs.size], _, _, H1, rfl, I1.kept (t' := s1.toks) fun b o e => Heap.get?_push_of_some _ e, turn_list a _, ⟨_, Heap.get?_push_size _ rfl, rfl, rfl⟩, fun b hb => ?_, q⟩
  have e : b = s1.heap.objs.size := by simpa using hb
  subst e
  exact I1.fpOk (Nat.le_refl _) (I1.hok.fresh (Nat.le_refl _))
theorem pi_tup {l : Expr} {tl : TE} (hl : PE X l tl) : PI X tg l (iTup X.K tl) := by
  intro pins s σ H R I h
  refine thn (hl pins s σ H _ I h) fun v s1 ⟨x, H1, I1, r1, q1⟩ => ?_
  obtain ⟨a, e, ⟨xs, hq⟩, q⟩ := q1
  subst e
  cases r1
  obtain ⟨its, rv, p, hz⟩ := I1.tuple hq
  refine wpAny_pyIter_tuple (show s1.heap.IsTuple a its.toArray from p) ?_
  refine ⟨s1.heap.objs.size, [s1.heap.objs.size], _, _, H1, rfl, I1.kept (t' := s1.toks) fun b o e => Heap.get?_push_of_some _ e, turn_tuple a _, ⟨_, Heap.get?_push_size _ rfl, rfl, rfl⟩, fun b hb => ?_, q⟩
  have e : b = s1.heap.objs.size := by simpa using hb
  subst e
  exact I1.fpOk (Nat.le_refl _) (I1.hok.fresh (Nat.le_refl _))
/-- a range object just made, walked -/
theorem range_it {pins : List (Addr × Obj)} {σ : St} {H : Hp} {s : Shared} {R : It → Hp → Prop} {E : Value → Shared → Prop} {lo hi : Int} {t u v : Tok} {tk : Nat} (I : Inv X pins σ H s) (h1 : -(2 ^ 62) ≤ lo) (h2 : lo < 2 ^ 62) (h3 : -(2 ^ 62) ≤ hi) (h4 : hi < 2 ^ 62)
    (q : R (Itr lo (hi - lo).toNat) H) : wpAny (model X.prog X.w) X.A (pyIter (.ref s.heap.objs.size)) (PIE X pins σ tg R) E { s with heap := s.heap.push { cls := .type "range", data := .fields #[.int lo t, .int hi u, .int 1 v] }, toks := tk } := by
  refine wpAny_pyIter_range (IsRange.new ..) (small_one h1 h2 h3 h4) ?_
  have I1 : Inv X pins σ H { s with heap := s.heap.push { cls := .type "range", data := .fields #[.int lo t, .int hi u, .int 1 v] }, toks := tk } := I.kept fun b o e => Heap.get?_push_of_some _ e
  refine ⟨(s.heap.push { cls := .type "range", data := .fields #[.int lo t, .int hi u, .int 1 v] }).objs.size, [(s.heap.push { cls := .type "range", data := .fields #[.int lo t, .int hi u, .int 1 v] }).objs.size], _, _, H, rfl,
    I1.kept (t' := tk) fun b o e => Heap.get?_push_of_some _ e, turn_range _ lo (hi - lo).toNat, ?_, fun b hb => ?_, q⟩
  · have e1 : lo + ((0 : Nat) : Int) * 1 = lo := by simp
    have e2 : (((hi - lo).toNat : Nat) : Int) - ((0 : Nat) : Int) = Builtin.Range.rangeSize lo hi 1 := by rw [rangeSize_one]; split <;> omega
    show IsRangeIter _ _ (lo + ((0 : Nat) : Int) * 1) ((((hi - lo).toNat : Nat) : Int) - ((0 : Nat) : Int)) 1
    rw [e1, e2]
    exact Heap.get?_push_size _ rfl
  · have e : b = (s.heap.push { cls := .type "range", data := .fields #[.int lo t, .int hi u, .int 1 v] }).objs.size := by simpa using hb
    subst e
    exact I1.fpOk (Nat.le_refl _) (I1.hok.fresh (Nat.le_refl _))
def iRng1 (ta : TA) : TI := fun σ H R => ta σ H fun vs H1 => ∃ j : Int, vs = [.int j] ∧ -(2 ^ 62) ≤ j ∧ j < 2 ^ 62 ∧ R (Itr 0 j.toNat) H1
def iRng2 (ta : TA) : TI := fun σ H R => ta σ H fun vs H1 => ∃ i j : Int, vs = [.int i, .int j] ∧ (-(2 ^ 62) ≤ i ∧ i < 2 ^ 62 ∧ -(2 ^ 62) ≤ j ∧ j < 2 ^ 62) ∧ R (Itr i (j - i).toNat) H1
theorem pi_range1 {a : Expr} {ta : TA} {p pos : Pos} (hg : Gl X "range") (hm : X.mg "range" = none) (ha : PA X [a] ta) (hs : starEach [a] X.env = [(false, eval a X.env)] := by rfl) : PI X tg (.Call (.Name "range" p) [a] [] pos) (iRng1 ta) := by
  intro pins s σ H R I h
  refine Call_ (ld_blt I hg hm boot_range (PyProof.Rows.callWith_type1 (thn (ha pos pins s σ H _ I h) fun us s1 ⟨vs, H1, I1, r1, q1⟩ => ?_) hs rfl))
  obtain ⟨j, e, q1, q2, q⟩ := q1
  subst e
  cases r1 with
  | cons r rr =>
    cases rr
    obtain ⟨t, rfl⟩ := r
    exact call_range_1 (range_it I1 (by omega) (by omega) q1 q2 (by simpa using q))
theorem pi_range2 {a b : Expr} {ta : TA} {p pos : Pos} (hg : Gl X "range") (hm : X.mg "range" = none) (ha : PA X [a, b] ta) (hs : starEach [a, b] X.env = [(false, eval a X.env), (false, eval b X.env)] := by rfl) (hs2 : starEach [b] X.env = [(false, eval b X.env)] := by rfl) :
    PI X tg (.Call (.Name "range" p) [a, b] [] pos) (iRng2 ta) := by
  intro pins s σ H R I h
  refine Call_ (ld_blt I hg hm boot_range (PyProof.Rows.callWith_type1 (thn (ha pos pins s σ H _ I h) fun us s1 ⟨vs, H1, I1, r1, q1⟩ => ?_) (by rw [hs, hs2]) (by rw [hs2]; rfl)))
  obtain ⟨i, j, e, ⟨q1, q2, q3, q4⟩, q⟩ := q1
  subst e
  cases r1 with
  | cons r rr =>
    cases rr with
    | cons r' rr =>
      cases rr
      obtain ⟨t, rfl⟩ := r
      obtain ⟨t', rfl⟩ := r'
      exact call_range_2 (range_it I1 q1 q2 q3 q4 q)

/-! ### for -/
/-- W: the invariant by the turn and a measure; N: what the body is to reach -/
def tFor (wi : TI) (g : TG) (tb : TS) : TS := fun D σ H => wi σ H fun J H1 => ∃ W : Nat → Nat → St → Hp → Prop, (∃ m, W 0 m σ H1) ∧ ∀ i m σ H, W i m σ H →
  (J.stop i H ∧ D.nx σ H) ∨ (J.go i H ∧ ∃ N : St → Hp → Prop, (∀ σ' H', N σ' H' → ∃ m', m' < m ∧ W (i + 1) m' σ' H') ∧ ∀ x H', J.yld i H x H' → g x σ H' fun σ2 H2 => tb { D with nx := N, ct := N, bk := D.nx } σ2 H2)
/-- the records at fp as they stand -/
def pinsAt (fp : List Addr) (h : Heap) : List (Addr × Obj) := fp.filterMap fun b => (h.get? b).map fun o => (b, o)
theorem mem_pinsAt {fp : List Addr} {h : Heap} {b : Addr} {o : Obj} (hb : b ∈ fp) (e : h.get? b = some o) : (b, o) ∈ pinsAt fp h := List.mem_filterMap.mpr ⟨b, hb, by rw [e]; rfl⟩
theorem of_pinsAt {fp : List Addr} {h : Heap} {p : Addr × Obj} (hp : p ∈ pinsAt fp h) : p.1 ∈ fp ∧ h.get? p.1 = some p.2 := by
  obtain ⟨b, hb, e⟩ := List.mem_filterMap.mp hp
  cases q : h.get? b with
  | none => rw [q] at e; cases e
  | some o =>
    rw [q] at e
    have e' : (b, o) = p := Option.some.inj e
    subst e'
    exact ⟨hb, q⟩
theorem Inv.pinned {pins : List (Addr × Obj)} {σ : St} {H : Hp} {s : Shared} {fp : List Addr} (I : Inv X pins σ H s) (hf : ∀ b ∈ fp, FpOk X pins H b) (ho : ∀ b ∈ fp, ∃ o, s.heap.get? b = some o ∧ ∀ v, o.data ≠ .cell v) : Inv X (pins ++ pinsAt fp s.heap) σ H s :=
  I.pins_of fun p hp => (List.mem_append.mp hp).elim (fun z => I.pin p (List.mem_append_right _ z)) fun z => by
    obtain ⟨hb, e⟩ := of_pinsAt z
    obtain ⟨f0, f1, f2, _⟩ := hf p.1 hb
    obtain ⟨o, e', d⟩ := ho p.1 hb
    rw [e] at e'; cases e'
    exact ⟨e, f0, f1, f2, d⟩
theorem Inv.unpinned {pins pl : List (Addr × Obj)} {σ : St} {H : Hp} {s : Shared} (I : Inv X (pins ++ pl) σ H s) : Inv X pins σ H s := I.pins_of fun p hp => I.pin p (List.mem_append_right _ (List.mem_append_left _ hp))
theorem ps_for {iter : Expr} {body : List Stmt} {wi : TI} {g : TG} {tb : TS} {pos : Pos} (hp : PassesOwn (model X.prog X.w) X.A X.env X.xe) (hc : X.calm = true) (hi : PI X tg iter wi) (hg : PG X tg g) (hb : PSs X body tb)
    (hs : ∀ x, foldedSetIterable iter X.env x = pure x := by intro _; rfl) : PS X (.For tg iter body [] pos) (tFor wi g tb) := by
  intro pins s σ H D I h
  refine wpAny_For (thn (hi pins s σ H _ I h) fun v s1 h1 => thn h1 fun itv s2 h2 => ?_) hs
  obtain ⟨it, fp, tn, J, H2, e, I2, T, st2, f2, W, ⟨m0, w0⟩, turn⟩ := h2
  subst e
  -- what stays true of the iterator's objects through the loop
  have stat : ∀ {H' : Hp}, (∀ b ∈ fp, H' b = none) → ∀ b ∈ fp, FpOk X pins H' b := fun hn b hb => ⟨hn b hb, (f2 b hb).2⟩
  refine codeAny_forLoop_any (fun n s' => ∃ i σ' H', Inv X pins σ' H' s' ∧ tn i s'.heap ∧ (∀ b ∈ fp, H' b = none) ∧ W i n σ' H') ?_ m0 ⟨0, σ, H2, I2, st2, fun b hb => (f2 b hb).1, w0⟩
  rintro n s3 ⟨i, σ3, H3, I3, st3, fr3, w3⟩
  rcases turn i n σ3 H3 w3 with ⟨stop, qn⟩ | ⟨go, N, hN, step⟩
  · refine wpAny_passesOwn hp (thn (T.done X rfl rfl rfl hc i pins s3 σ3 H3 X.xe I3 (stat fr3) st3 stop) fun r s4 ⟨hr, I4⟩ => ?_)
    subst hr
    exact wpAny_execs_nil ⟨σ3, H3, I4, qn⟩
  · refine wpAny_passesOwn hp (thn (T.item X rfl rfl rfl hc i pins s3 σ3 H3 X.xe I3 (stat fr3) st3 go) fun r s4 ⟨u, hr, h4⟩ => ?_)
    subst hr
    refine wpAny_passesOwn hp (thn h4 fun _ s5 ⟨x, H5, I5, r5, y5, st5, fr5⟩ => ?_)
    have I5' := I5.pinned (stat fr5) (T.obj _ _ st5)
    refine wpAny_passesOwn hp (thn (hg _ s5 σ3 H5 x u _ I5' r5 (step x H5 y5)) fun _ s6 ⟨σ6, H6, I6, q6⟩ => ?_)
    refine wpAny_passesOwn hp (thn (hb _ s6 σ6 H6 _ I6 q6) fun f s7 q7 => ?_)
    have again : ∀ {σ7 : St} {H7 : Hp}, Inv X (pins ++ pinsAt fp s5.heap) σ7 H7 s7 → N σ7 H7 → ∃ m, m < n ∧ ∃ i σ' H', Inv X pins σ' H' s7 ∧ tn i s7.heap ∧ (∀ b ∈ fp, H' b = none) ∧ W i m σ' H' := fun {σ7 H7} I7 n7 => by
      obtain ⟨m', hm, w7⟩ := hN σ7 H7 n7
      refine ⟨m', hm, i + 1, σ7, H7, I7.unpinned, T.keep _ _ _ st5 fun b hb o e => (I7.pin (b, o) (List.mem_append_right _ (List.mem_append_right _ (mem_pinsAt hb e)))).1, fun b hb => ?_, w7⟩
      obtain ⟨o, e, d⟩ := T.obj _ _ st5 b hb
      exact (I7.pin (b, o) (List.mem_append_right _ (List.mem_append_right _ (mem_pinsAt hb e)))).2.1
    cases f with
    | next => obtain ⟨σ7, H7, I7, n7⟩ := q7; exact again I7 n7
    | cont => obtain ⟨σ7, H7, I7, n7⟩ := q7; exact again I7 n7
    | brk => obtain ⟨σ7, H7, I7, q7⟩ := q7; exact ⟨σ7, H7, I7.unpinned, q7⟩
    | ret v => obtain ⟨x7, σ7, H7, I7, r7, q7⟩ := q7; exact ⟨x7, σ7, H7, I7.unpinned, r7, q7⟩
end

/-! ### the forms one uses -/
/-- over a list that the body leaves as it is -/
theorem for_list {K : PySem.W.Frag} {a : Addr} {xs : List V} {g : TG} {tb : TS} {D : Ends} {σ : St} {H : Hp} (Pv : Nat → St → Hp → Prop) (h0 : Pv 0 σ H) (hl : ∀ i σ H, i ≤ xs.length → Pv i σ H → SqL K H a xs)
    (hs : ∀ i x σ H, xs[i]? = some x → Pv i σ H → g x σ H fun σ2 H2 => tb { D with nx := Pv (i + 1), ct := Pv (i + 1), bk := D.nx } σ2 H2) (hd : ∀ σ H, Pv xs.length σ H → D.nx σ H) :
    ∃ W : Nat → Nat → St → Hp → Prop, (∃ m, W 0 m σ H) ∧ ∀ i m σ H, W i m σ H →
      ((Itl K a).stop i H ∧ D.nx σ H) ∨ ((Itl K a).go i H ∧ ∃ N : St → Hp → Prop, (∀ σ' H', N σ' H' → ∃ m', m' < m ∧ W (i + 1) m' σ' H') ∧ ∀ x H', (Itl K a).yld i H x H' → g x σ H' fun σ2 H2 => tb { D with nx := N, ct := N, bk := D.nx } σ2 H2) := by
  refine ⟨fun i m σ H => m = xs.length - i ∧ i ≤ xs.length ∧ Pv i σ H, ⟨xs.length, by simp, Nat.zero_le _, h0⟩, ?_⟩
  rintro i m σ H ⟨rfl, hi, p⟩
  have q := hl i σ H hi p
  by_cases hlt : i < xs.length
  · refine .inr ⟨⟨xs, xs[i], q, by simp [hlt]⟩, Pv (i + 1), fun σ' H' p' => ⟨xs.length - (i + 1), by omega, rfl, hlt, p'⟩, fun x H' y => ?_⟩
    obtain ⟨e, y⟩ := y
    subst e
    exact hs i x σ _ (y xs q) p
  · have e : i = xs.length := by omega
    subst e
    exact .inl ⟨⟨xs, q, Nat.le_refl _⟩, hd σ H p⟩
theorem for_tup {K : PySem.W.Frag} {a : Addr} {xs : List V} {g : TG} {tb : TS} {D : Ends} {σ : St} {H : Hp} (Pv : Nat → St → Hp → Prop) (h0 : Pv 0 σ H) (hl : ∀ i σ H, i ≤ xs.length → Pv i σ H → SqT K H a xs)
    (hs : ∀ i x σ H, xs[i]? = some x → Pv i σ H → g x σ H fun σ2 H2 => tb { D with nx := Pv (i + 1), ct := Pv (i + 1), bk := D.nx } σ2 H2) (hd : ∀ σ H, Pv xs.length σ H → D.nx σ H) :
    ∃ W : Nat → Nat → St → Hp → Prop, (∃ m, W 0 m σ H) ∧ ∀ i m σ H, W i m σ H →
      ((Itt K a).stop i H ∧ D.nx σ H) ∨ ((Itt K a).go i H ∧ ∃ N : St → Hp → Prop, (∀ σ' H', N σ' H' → ∃ m', m' < m ∧ W (i + 1) m' σ' H') ∧ ∀ x H', (Itt K a).yld i H x H' → g x σ H' fun σ2 H2 => tb { D with nx := N, ct := N, bk := D.nx } σ2 H2) := by
  refine ⟨fun i m σ H => m = xs.length - i ∧ i ≤ xs.length ∧ Pv i σ H, ⟨xs.length, by simp, Nat.zero_le _, h0⟩, ?_⟩
  rintro i m σ H ⟨rfl, hi, p⟩
  have q := hl i σ H hi p
  by_cases hlt : i < xs.length
  · refine .inr ⟨⟨xs, xs[i], q, by simp [hlt]⟩, Pv (i + 1), fun σ' H' p' => ⟨xs.length - (i + 1), by omega, rfl, hlt, p'⟩, fun x H' y => ?_⟩
    obtain ⟨e, y⟩ := y
    subst e
    exact hs i x σ _ (y xs q) p
  · have e : i = xs.length := by omega
    subst e
    exact .inl ⟨⟨xs, q, Nat.le_refl _⟩, hd σ H p⟩
theorem for_range {lo : Int} {n : Nat} {g : TG} {tb : TS} {D : Ends} {σ : St} {H : Hp} (Pv : Nat → St → Hp → Prop) (h0 : Pv 0 σ H)
    (hs : ∀ i σ H, i < n → Pv i σ H → g (.int (lo + i)) σ H fun σ2 H2 => tb { D with nx := Pv (i + 1), ct := Pv (i + 1), bk := D.nx } σ2 H2) (hd : ∀ σ H, Pv n σ H → D.nx σ H) :
    ∃ W : Nat → Nat → St → Hp → Prop, (∃ m, W 0 m σ H) ∧ ∀ i m σ H, W i m σ H →
      ((Itr lo n).stop i H ∧ D.nx σ H) ∨ ((Itr lo n).go i H ∧ ∃ N : St → Hp → Prop, (∀ σ' H', N σ' H' → ∃ m', m' < m ∧ W (i + 1) m' σ' H') ∧ ∀ x H', (Itr lo n).yld i H x H' → g x σ H' fun σ2 H2 => tb { D with nx := N, ct := N, bk := D.nx } σ2 H2) := by
  refine ⟨fun i m σ H => m = n - i ∧ i ≤ n ∧ Pv i σ H, ⟨n, by simp, Nat.zero_le _, h0⟩, ?_⟩
  rintro i m σ H ⟨rfl, hi, p⟩
  by_cases hlt : i < n
  · refine .inr ⟨hlt, Pv (i + 1), fun σ' H' p' => ⟨n - (i + 1), by omega, rfl, hlt, p'⟩, fun x H' y => ?_⟩
    obtain ⟨e, y⟩ := y
    subst e y
    exact hs i σ _ hlt p
  · have e : i = n := by omega
    subst e
    exact .inl ⟨Nat.le_refl _, hd σ H p⟩
/-- while, by a word and a measure of the state -/
theorem while_by {c : TT} {tb : TS} {D : Ends} {σ : St} {H : Hp} (Pv : St → Hp → Prop) (μ : St → Hp → Nat) (h0 : Pv σ H)
    (hs : ∀ σ H, Pv σ H → c σ H fun b H1 => if b = true then tb { D with nx := fun σ' H' => Pv σ' H' ∧ μ σ' H' < μ σ H, ct := fun σ' H' => Pv σ' H' ∧ μ σ' H' < μ σ H, bk := D.nx } σ H1 else D.nx σ H1)
    (mono : ∀ σ H Q Q', (∀ b H1, Q b H1 → Q' b H1) → c σ H Q → c σ H Q') : tWhile c tb D σ H := by
  refine ⟨fun m σ H => m = μ σ H ∧ Pv σ H, ⟨_, rfl, h0⟩, ?_⟩
  rintro m σ H ⟨rfl, p⟩
  refine mono σ H _ _ (fun b H1 q => ?_) (hs σ H p)
  cases b with
  | true => exact ⟨_, fun σ' H' ⟨p', l⟩ => ⟨_, l, rfl, p'⟩, q⟩
  | false => exact q
end L2

namespace L2
open PySem PySem.Spec PyProof.Rows

abbrev R2 := V → V → Hp → VK → Prop
/-- a two-place operation on values: f is binaryOp op, inplaceOp op or compareOp op -/
def OpR (X : Cx) (f : Value → Value → Sem Value) (r : R2) : Prop :=
  ∀ (pins : List (Addr × Obj)) (s : Shared) (σ : St) (H : Hp) (x y : V) (v u : Value) (Q : VK), Inv X pins σ H s → RelV x v → RelV y u → r x y H Q →
    wpAny (model X.prog X.w) X.A (f v u) (EP X pins σ Q) X.xe s
/-- a one-place operation -/
def UnR (X : Cx) (f : Value → Sem Value) (r : V → Hp → VK → Prop) : Prop :=
  ∀ (pins : List (Addr × Obj)) (s : Shared) (σ : St) (H : Hp) (x : V) (v : Value) (Q : VK), Inv X pins σ H s → RelV x v → r x H Q →
    wpAny (model X.prog X.w) X.A (f v) (EP X pins σ Q) X.xe s
/-- a call of a value that is known (a builtin, a type) with values -/
def CallR (X : Cx) (f : Value) (r : List V → Hp → VK → Prop) : Prop :=
  ∀ (pins : List (Addr × Obj)) (s : Shared) (σ : St) (H : Hp) (xs : List V) (us : List Value) (Q : VK), Inv X pins σ H s → Vals xs us → r xs H Q →
    wpAny (model X.prog X.w) X.A (call f us) (EP X pins σ Q) X.xe s
/-- a value's truth -/
def TruR (X : Cx) (r : V → Hp → (Bool → Hp → Prop) → Prop) : Prop :=
  ∀ (pins : List (Addr × Obj)) (s : Shared) (σ : St) (H : Hp) (x : V) (v : Value) (Q : Bool → Hp → Prop), Inv X pins σ H s → RelV x v → r x H Q →
    wpAny (model X.prog X.w) X.A (truthy v) (TP X pins σ Q) X.xe s

def tOp (r : R2) (ta tb : TE) : TE := fun σ H Q => ta σ H fun x H1 => tb σ H1 fun y H2 => r x y H2 Q
def tUn (r : V → Hp → VK → Prop) (ta : TE) : TE := fun σ H Q => ta σ H fun x H1 => r x H1 Q
/-- ints in, under C, and a value out -/
def rI (C : Int → Int → Prop) (g : Int → Int → V) : R2 := fun x y H Q => ∃ i j, x = .int i ∧ y = .int j ∧ C i j ∧ Q (g i j) H
def rI0 (g : Int → Int → V) : R2 := fun x y H Q => ∃ i j, x = .int i ∧ y = .int j ∧ Q (g i j) H
def rU (g : Int → V) : V → Hp → VK → Prop := fun x H Q => ∃ i, x = .int i ∧ Q (g i) H

section
variable {X : Cx} {a b c : Expr} {ta tb tc : TE} {pos : Pos}

theorem binT (ha : PE X a ta) (hb : PE X b tb) {pins : List (Addr × Obj)} {s : Shared} {σ : St} {H : Hp} {R : V → V → Hp → Prop} (I : Inv X pins σ H s)
    (h : ta σ H fun x H1 => tb σ H1 fun y H2 => R x y H2) {Q : Value → Shared → Prop} {f : Value → Value → Sem Value}
    (hf : ∀ v u s2 x y H2, Inv X pins σ H2 s2 → RelV x v → RelV y u → R x y H2 → wpAny (model X.prog X.w) X.A (f v u) Q X.xe s2) :
    wpAny (model X.prog X.w) X.A (eval a X.env) (fun v s₁ => wpAny (model X.prog X.w) X.A (eval b X.env) (fun u s₂ => wpAny (model X.prog X.w) X.A (f v u) Q X.xe s₂) X.xe s₁) X.xe s := by
  refine thn (ha pins s σ H _ I h) fun v s1 ⟨x, H1, I1, r1, q1⟩ => ?_
  refine thn (hb pins s1 σ H1 _ I1 q1) fun u s2 ⟨y, H2, I2, r2, q2⟩ => ?_
  exact hf v u s2 x y H2 I2 r1 r2 q2

theorem pe_op {op : Operator} {r : R2} (ho : OpR X (binaryOp op) r) (ha : PE X a ta) (hb : PE X b tb) : PE X (.BinOp a op b pos) (tOp r ta tb) := by
  intro pins s σ H Q I h
  exact wpAny_BinOp (binT ha hb I h fun v u s2 x y H2 I2 rx ry q => ho pins s2 σ H2 x y v u Q I2 rx ry q)
theorem pe_un {op : UnaryOp} {r : V → Hp → VK → Prop} (ho : UnR X (unaryOp op) r) (ha : PE X a ta) : PE X (.UnaryOp op a pos) (tUn r ta) := by
  intro pins s σ H Q I h
  exact UnaryOp_ (thn (ha pins s σ H _ I h) fun v s1 ⟨x, H1, I1, r1, q1⟩ => ho pins s1 σ H1 x v Q I1 r1 q1)
/-- a op= e at a name: the name's slot i -/
theorem augR {op : Operator} {r : R2} (ho : OpR X (inplaceOp op) r) {pins : List (Addr × Obj)} {s : Shared} {σ : St} {H : Hp} {x y : V} {v u : Value} {Q : VK} (I : Inv X pins σ H s)
    (rx : RelV x v) (ry : RelV y u) (q : r x y H Q) : wpAny (model X.prog X.w) X.A (inplaceOp op v u) (EP X pins σ Q) X.xe s := ho pins s σ H x y v u Q I rx ry q

/-! ### ints -/
theorem opI {f : Value → Value → Sem Value} {C : Int → Int → Prop} {g : Int → Int → Int}
    (rule : ∀ (i j : Int) (t u : Tok) (s : Shared) (Q : Value → Shared → Prop) (E : Value → Shared → Prop), C i j → Q (.int (g i j) s.toks) { s with toks := s.toks + 1 } → wpAny (model X.prog X.w) X.A (f (.int i t) (.int j u)) Q E s) :
    OpR X f (rI C fun i j => .int (g i j)) := by
  intro pins s σ H x y v u Q I rx ry h
  obtain ⟨i, j, rfl, rfl, hc, q⟩ := h
  obtain ⟨t, rfl⟩ := rx
  obtain ⟨t', rfl⟩ := ry
  exact rule i j t t' s _ _ hc ⟨.int (g i j), H, I.tok _, ⟨_, rfl⟩, q⟩
theorem opI0 {f : Value → Value → Sem Value} {g : Int → Int → Int}
    (rule : ∀ (i j : Int) (t u : Tok) (s : Shared) (Q : Value → Shared → Prop) (E : Value → Shared → Prop), Q (.int (g i j) s.toks) { s with toks := s.toks + 1 } → wpAny (model X.prog X.w) X.A (f (.int i t) (.int j u)) Q E s) :
    OpR X f (rI0 fun i j => .int (g i j)) := by
  intro pins s σ H x y v u Q I rx ry h
  obtain ⟨i, j, rfl, rfl, q⟩ := h
  obtain ⟨t, rfl⟩ := rx
  obtain ⟨t', rfl⟩ := ry
  exact rule i j t t' s _ _ ⟨.int (g i j), H, I.tok _, ⟨_, rfl⟩, q⟩
theorem opB0 {f : Value → Value → Sem Value} {g : Int → Int → Bool}
    (rule : ∀ (i j : Int) (t u : Tok) (s : Shared) (Q : Value → Shared → Prop) (E : Value → Shared → Prop), Q (.bool (g i j)) s → wpAny (model X.prog X.w) X.A (f (.int i t) (.int j u)) Q E s) :
    OpR X f (rI0 fun i j => .bl (g i j)) := by
  intro pins s σ H x y v u Q I rx ry h
  obtain ⟨i, j, rfl, rfl, q⟩ := h
  obtain ⟨t, rfl⟩ := rx
  obtain ⟨t', rfl⟩ := ry
  exact rule i j t t' s _ _ ⟨.bl (g i j), H, I, rfl, q⟩

def CDiv (i j : Int) : Prop := 0 < j ∧ j < 1073741824
def CDivN (i j : Int) : Prop := j ≠ 0 ∧ j.natAbs < 1073741824
def CPow (i j : Int) : Prop := 0 ≤ j ∧ j ≤ 1000000 ∧ i.natAbs < 2 ^ 64
def CMul (i j : Int) : Prop := (-(2 ^ 64) < i ∧ i < 2 ^ 64) ∨ (-(2 ^ 64) < j ∧ j < 2 ^ 64)
theorem CMul.ok {i j : Int} (h : CMul i j) : IntMulOk i j := by
  rcases h with ⟨h1, h2⟩ | ⟨h1, h2⟩
  · exact .of_left (intBits_le_64 h1 h2)
  · exact .of_right (intBits_le_64 h1 h2)
theorem two_pow_nn (k : Nat) : (0 : Int) ≤ 2 ^ k := by
  rw [two_pow_cast]
  exact Int.natCast_nonneg _

theorem op_add : OpR X (binaryOp .Add) (rI0 fun i j => .int (i + j)) := opI0 fun _ _ _ _ _ _ _ q => add_int q
theorem op_sub : OpR X (binaryOp .Sub) (rI0 fun i j => .int (i - j)) := opI0 fun _ _ _ _ _ _ _ q => sub_int q
theorem op_mul : OpR X (binaryOp .Mult) (rI CMul fun i j => .int (i * j)) := opI fun _ _ _ _ _ _ _ hc q => mul_int q hc.ok
/-- // by a positive divisor -/
theorem op_fdiv : OpR X (binaryOp .FloorDiv) (rI CDiv fun i j => .int (i / j)) := opI fun i j _ _ _ _ _ hc q => by
  have h1 : (0 : Int) < j := hc.1
  have h2 : j < 1073741824 := hc.2
  exact floordiv_int (by omega) (by rw [Int.fdiv_eq_ediv_of_nonneg i (by omega)]; exact q) (.inl (PyProof.noPylong_small (by omega)))
theorem op_fdivN : OpR X (binaryOp .FloorDiv) (rI CDivN fun i j => .int (i.fdiv j)) := opI fun _ _ _ _ _ _ _ hc q => floordiv_int hc.1 q (.inl (PyProof.noPylong_small hc.2))
/-- % by a positive divisor of any size -/
theorem op_mod : OpR X (binaryOp .Mod) (rI (fun _ j => 0 < j) fun i j => .int (i % j)) := opI fun i j _ _ _ _ _ hc q => by
  have h1 : (0 : Int) < j := hc
  exact mod_int' (by omega) (by rw [Int.fmod_eq_emod_of_nonneg i (by omega)]; exact q)
theorem op_modN : OpR X (binaryOp .Mod) (rI (fun _ j => j ≠ 0) fun i j => .int (i.fmod j)) := opI fun _ _ _ _ _ _ _ hc q => mod_int' hc q
theorem op_pow : OpR X (binaryOp .Pow) (rI CPow fun i j => .int (i ^ j.toNat)) := opI fun _ _ _ _ _ _ _ hc q => pow_int_small hc.1 hc.2.1 hc.2.2 q
theorem op_shl : OpR X (binaryOp .LShift) (rI CPow fun i j => .int (i * 2 ^ j.toNat)) := opI fun _ _ _ _ _ _ _ hc q => lshift_int_small hc.1 hc.2.1 hc.2.2 q
theorem op_shr : OpR X (binaryOp .RShift) (rI (fun _ j => 0 ≤ j) fun i j => .int (i / 2 ^ j.toNat)) := opI fun i j _ _ _ _ _ hc q =>
  rshift_int hc (by rw [Int.fdiv_eq_ediv_of_nonneg i (two_pow_nn _)]; exact q)
theorem op_and : OpR X (binaryOp .BitAnd) (rI0 fun i j => .int (Builtin.bitAnd i j)) := opI0 fun _ _ _ _ _ _ _ q => and_int q
theorem op_or : OpR X (binaryOp .BitOr) (rI0 fun i j => .int (Builtin.bitOr i j)) := opI0 fun _ _ _ _ _ _ _ q => or_int q
theorem op_xor : OpR X (binaryOp .BitXor) (rI0 fun i j => .int (Builtin.bitXor i j)) := opI0 fun _ _ _ _ _ _ _ q => xor_int q

theorem iop_add : OpR X (inplaceOp .Add) (rI0 fun i j => .int (i + j)) := opI0 fun _ _ _ _ _ _ _ q => iadd_int q
theorem iop_sub : OpR X (inplaceOp .Sub) (rI0 fun i j => .int (i - j)) := opI0 fun _ _ _ _ _ _ _ q => isub_int q
theorem iop_mul : OpR X (inplaceOp .Mult) (rI CMul fun i j => .int (i * j)) := opI fun _ _ _ _ _ _ _ hc q => imul_int q hc.ok
theorem iop_fdiv : OpR X (inplaceOp .FloorDiv) (rI CDiv fun i j => .int (i / j)) := opI fun i j _ _ _ _ _ hc q => by
  have h1 : (0 : Int) < j := hc.1
  have h2 : j < 1073741824 := hc.2
  exact ifloordiv_int (by omega) (by rw [Int.fdiv_eq_ediv_of_nonneg i (by omega)]; exact q) (.inl (PyProof.noPylong_small (by omega)))
theorem iop_mod : OpR X (inplaceOp .Mod) (rI (fun _ j => 0 < j) fun i j => .int (i % j)) := opI fun i j _ _ _ _ _ hc q => by
  have h1 : (0 : Int) < j := hc
  exact imod_int (by omega) (by rw [Int.fmod_eq_emod_of_nonneg i (by omega)]; exact q)
theorem iop_shl : OpR X (inplaceOp .LShift) (rI CPow fun i j => .int (i * 2 ^ j.toNat)) := opI fun _ _ _ _ _ _ _ hc q => ilshift_int_small hc.1 hc.2.1 hc.2.2 q
theorem iop_shr : OpR X (inplaceOp .RShift) (rI (fun _ j => 0 ≤ j) fun i j => .int (i / 2 ^ j.toNat)) := opI fun i j _ _ _ _ _ hc q =>
  irshift_int hc (by rw [Int.fdiv_eq_ediv_of_nonneg i (two_pow_nn _)]; exact q)
theorem iop_and : OpR X (inplaceOp .BitAnd) (rI0 fun i j => .int (Builtin.bitAnd i j)) := opI0 fun _ _ _ _ _ _ _ q => iand_int q
theorem iop_or : OpR X (inplaceOp .BitOr) (rI0 fun i j => .int (Builtin.bitOr i j)) := opI0 fun _ _ _ _ _ _ _ q => ior_int q
theorem iop_xor : OpR X (inplaceOp .BitXor) (rI0 fun i j => .int (Builtin.bitXor i j)) := opI0 fun _ _ _ _ _ _ _ q => ixor_int q

theorem unI {f : Value → Sem Value} {g : Int → Int}
    (rule : ∀ (i : Int) (t : Tok) (s : Shared) (Q : Value → Shared → Prop) (E : Value → Shared → Prop), Q (.int (g i) s.toks) { s with toks := s.toks + 1 } → wpAny (model X.prog X.w) X.A (f (.int i t)) Q E s) :
    UnR X f (rU fun i => .int (g i)) := by
  intro pins s σ H x v Q I rx h
  obtain ⟨i, rfl, q⟩ := h
  obtain ⟨t, rfl⟩ := rx
  exact rule i t s _ _ ⟨.int (g i), H, I.tok _, ⟨_, rfl⟩, q⟩
theorem un_neg : UnR X (unaryOp .USub) (rU fun i => .int (-i)) := unI fun _ _ _ _ _ q => neg_int q
theorem un_inv : UnR X (unaryOp .Invert) (rU fun i => .int (Builtin.bitNot i)) := unI fun _ _ _ _ _ q => invert_int q

/-! ### bools among ints: n += (a < b) -/
theorem op_add_ib : OpR X (binaryOp .Add) (fun x y H Q => ∃ i k, x = .int i ∧ y = .bl k ∧ Q (.int (i + b2i k)) H) := by
  intro pins s σ H x y v u Q I rx ry h
  obtain ⟨i, k, rfl, rfl, q⟩ := h
  obtain ⟨t, rfl⟩ := rx
  cases ry
  exact add_int_bool ⟨.int (i + b2i k), H, I.tok _, ⟨_, rfl⟩, q⟩
end

/-! ### comparisons -/
/-- the scalars that == tells apart as data does -/
def scal : V → V → Bool
  | .non, .non => true | .non, .int _ => true | .int _, .non => true | .non, .bl _ => true | .bl _, .non => true | .non, .str _ => true | .str _, .non => true
  | .int _, .int _ => true | .bl _, .bl _ => true | .str _, .str _ => true | .byt _, .byt _ => true
  | .int _, .str _ => true | .str _, .int _ => true | .bl _, .str _ => true | .str _, .bl _ => true
  | _, _ => false
def rEq : R2 := fun x y H Q => scal x y = true ∧ Q (.bl (decide (x = y))) H
def rNe : R2 := fun x y H Q => scal x y = true ∧ Q (.bl (!decide (x = y))) H

theorem dec_int {i j : Int} : decide (V.int i = V.int j) = (i == j) := by
  rw [Bool.eq_iff_iff]
  simp
theorem dec_bl {i j : Bool} : decide (V.bl i = V.bl j) = (i == j) := by
  rw [Bool.eq_iff_iff]
  simp
theorem dec_str {i j : Str} : decide (V.str i = V.str j) = (i == j) := by
  rw [Bool.eq_iff_iff]
  simp
theorem dec_byt {i j : Array UInt8} : decide (V.byt i = V.byt j) = (i.toList == j.toList) := by
  rw [Bool.eq_iff_iff]
  cases i
  cases j
  simp

section
variable {X : Cx} {a b c : Expr} {ta tb tc : TE} {pos : Pos}
theorem fin_bl {pins : List (Addr × Obj)} {σ : St} {H : Hp} {s : Shared} {Q : VK} {k k' : Bool} (I : Inv X pins σ H s) (q : Q (.bl k) H) (e : k = k') : EP X pins σ Q (.bool k') s := by
  subst e
  exact ⟨.bl k, H, I, rfl, q⟩
theorem op_eq : OpR X (compareOp .Eq) rEq := by
  intro pins s σ H x y v u Q I rx ry h
  obtain ⟨hs, q⟩ := h
  cases x with
  | non =>
    cases rx
    cases y with
    | non => cases ry; exact PySem.EqNone.eq_none_none (fin_bl I q (by simp))
    | bl j => cases ry; exact PySem.EqNone.eq_none_bool (fin_bl I q (by simp))
    | int j => obtain ⟨t', rfl⟩ := ry; exact PySem.EqNone.eq_none_int (fin_bl I q (by simp))
    | str j => obtain ⟨t', rfl⟩ := ry; exact PySem.EqNone.eq_none_str (fin_bl I q (by simp))
    | _ => exact absurd (show false = true from hs) Bool.false_ne_true
  | bl i =>
    cases rx
    cases y with
    | non => cases ry; exact PySem.EqNone.eq_bool_none (fin_bl I q (by simp))
    | bl j => cases ry; exact eq_bool (fin_bl I q dec_bl)
    | str j => obtain ⟨t', rfl⟩ := ry; exact PySem.EqMixed.eq_bool_str (fin_bl I q (by simp))
    | _ => exact absurd (show false = true from hs) Bool.false_ne_true
  | int i =>
    obtain ⟨t, rfl⟩ := rx
    cases y with
    | non => cases ry; exact PySem.EqNone.eq_int_none (fin_bl I q (by simp))
    | int j => obtain ⟨t', rfl⟩ := ry; exact eq_int (fin_bl I q dec_int)
    | str j => obtain ⟨t', rfl⟩ := ry; exact PySem.EqMixed.eq_int_str (fin_bl I q (by simp))
    | _ => exact absurd (show false = true from hs) Bool.false_ne_true
  | str i =>
    obtain ⟨t, rfl⟩ := rx
    cases y with
    | non => cases ry; exact PySem.EqNone.eq_str_none (fin_bl I q (by simp))
    | bl j => cases ry; exact PySem.EqMixed.eq_str_bool (fin_bl I q (by simp))
    | int j => obtain ⟨t', rfl⟩ := ry; exact PySem.EqMixed.eq_str_int (fin_bl I q (by simp))
    | str j => obtain ⟨t', rfl⟩ := ry; exact eq_str (fin_bl I q dec_str)
    | _ => exact absurd (show false = true from hs) Bool.false_ne_true
  | byt i =>
    obtain ⟨t, rfl⟩ := rx
    cases y with
    | byt j => obtain ⟨t', rfl⟩ := ry; exact PySem.W.eq_bytes (fin_bl I q dec_byt)
    | _ => exact absurd (show false = true from hs) Bool.false_ne_true
  | _ => cases y <;> exact absurd (show false = true from hs) Bool.false_ne_true
theorem op_ne : OpR X (compareOp .NotEq) rNe := by
  intro pins s σ H x y v u Q I rx ry h
  obtain ⟨hs, q⟩ := h
  cases x with
  | non =>
    cases rx
    cases y with
    | non => cases ry; exact PySem.EqNone.ne_none_none (fin_bl I q (by simp))
    | bl j => cases ry; exact PySem.EqNone.ne_none_bool (fin_bl I q (by simp))
    | int j => obtain ⟨t', rfl⟩ := ry; exact PySem.EqNone.ne_none_int (fin_bl I q (by simp))
    | str j => obtain ⟨t', rfl⟩ := ry; exact PySem.EqNone.ne_none_str (fin_bl I q (by simp))
    | _ => exact absurd (show false = true from hs) Bool.false_ne_true
  | bl i =>
    cases rx
    cases y with
    | non => cases ry; exact PySem.EqNone.ne_bool_none (fin_bl I q (by simp))
    | bl j => cases ry; exact ne_bool (fin_bl I q (congrArg not dec_bl))
    | str j => obtain ⟨t', rfl⟩ := ry; exact PySem.EqMixed.ne_bool_str (fin_bl I q (by simp))
    | _ => exact absurd (show false = true from hs) Bool.false_ne_true
  | int i =>
    obtain ⟨t, rfl⟩ := rx
    cases y with
    | non => cases ry; exact PySem.EqNone.ne_int_none (fin_bl I q (by simp))
    | int j => obtain ⟨t', rfl⟩ := ry; exact ne_int (fin_bl I q (congrArg not dec_int))
    | str j => obtain ⟨t', rfl⟩ := ry; exact PySem.EqMixed.ne_int_str (fin_bl I q (by simp))
    | _ => exact absurd (show false = true from hs) Bool.false_ne_true
  | str i =>
    obtain ⟨t, rfl⟩ := rx
    cases y with
    | non => cases ry; exact PySem.EqNone.ne_str_none (fin_bl I q (by simp))
    | bl j => cases ry; exact PySem.EqMixed.ne_str_bool (fin_bl I q (by simp))
    | int j => obtain ⟨t', rfl⟩ := ry; exact PySem.EqMixed.ne_str_int (fin_bl I q (by simp))
    | str j => obtain ⟨t', rfl⟩ := ry; exact ne_str (fin_bl I q (congrArg not dec_str))
    | _ => exact absurd (show false = true from hs) Bool.false_ne_true
  | byt i =>
    obtain ⟨t, rfl⟩ := rx
    cases y with
    | byt j => obtain ⟨t', rfl⟩ := ry; exact PySem.W.ne_bytes (fin_bl I q (congrArg not dec_byt))
    | _ => exact absurd (show false = true from hs) Bool.false_ne_true
  | _ => cases y <;> exact absurd (show false = true from hs) Bool.false_ne_true

theorem op_lt : OpR X (compareOp .Lt) (rI0 fun i j => .bl (decide (i < j))) := opB0 fun _ _ _ _ _ _ _ q => lt_int q
theorem op_le : OpR X (compareOp .LtE) (rI0 fun i j => .bl (decide (i ≤ j))) := opB0 fun _ _ _ _ _ _ _ q => le_int q
theorem op_gt : OpR X (compareOp .Gt) (rI0 fun i j => .bl (decide (j < i))) := opB0 fun _ _ _ _ _ _ _ q => gt_int q
theorem op_ge : OpR X (compareOp .GtE) (rI0 fun i j => .bl (decide (j ≤ i))) := opB0 fun _ _ _ _ _ _ _ q => ge_int q
theorem op_lt_str : OpR X (compareOp .Lt) (fun x y H Q => ∃ i j, x = .str i ∧ y = .str j ∧ Q (.bl (decide (i.cps.toList < j.cps.toList))) H) := by
  intro pins s σ H x y v u Q I rx ry h
  obtain ⟨i, j, rfl, rfl, q⟩ := h
  obtain ⟨t, rfl⟩ := rx
  obtain ⟨t', rfl⟩ := ry
  exact lt_str (fin_bl I q rfl)
/-- the one string within the other -/
theorem op_in_str : OpR X (compareOp .In) (fun x y H Q => ∃ i j, x = .str i ∧ y = .str j ∧ Q (.bl (!(Builtin.Str.occurrences j i 0 j.length 1).isEmpty)) H) := by
  intro pins s σ H x y v u Q I rx ry h
  obtain ⟨i, j, rfl, rfl, q⟩ := h
  obtain ⟨t, rfl⟩ := rx
  obtain ⟨t', rfl⟩ := ry
  exact in_str (fin_bl I q rfl)

/-- is None, is not None: the right side a value none -/
theorem op_isN : OpR X (compareOp .Is) (fun x y H Q => y = .non ∧ Q (.bl (decide (x = .non))) H) := by
  intro pins s σ H x y v u Q I rx ry h
  obtain ⟨rfl, q⟩ := h
  cases ry
  refine is_none_gen (fin_bl I q ?_)
  cases x <;> first
    | (cases rx; rfl)
    | (obtain ⟨t, rfl⟩ := rx; rfl)
theorem op_notN : OpR X (compareOp .IsNot) (fun x y H Q => y = .non ∧ Q (.bl (!decide (x = .non))) H) := by
  intro pins s σ H x y v u Q I rx ry h
  obtain ⟨rfl, q⟩ := h
  cases ry
  refine isnot_none_gen (fin_bl I q ?_)
  cases x <;> first
    | (cases rx; rfl)
    | (obtain ⟨t, rfl⟩ := rx; rfl)

theorem op_notin_str : OpR X (compareOp .NotIn) (fun x y H Q => ∃ i j, x = .str i ∧ y = .str j ∧ Q (.bl (!(!(Builtin.Str.occurrences j i 0 j.length 1).isEmpty))) H) := by
  intro pins s σ H x y v u Q I rx ry h
  obtain ⟨i, j, rfl, rfl, q⟩ := h
  obtain ⟨t, rfl⟩ := rx
  obtain ⟨t', rfl⟩ := ry
  exact notIn_str (fin_bl I q rfl)
/-- is, is not of two objects that are tracked lists or instances -/
def isObj : HO → Bool
  | .lst _ => true
  | .ins _ _ _ => true
  | _ => false
theorem obj_there {pins : List (Addr × Obj)} {s : Shared} {σ : St} {H : Hp} {a : Addr} {o : HO} (I : Inv X pins σ H s) (h : H a = some o) (p : isObj o = true) : ∃ ob, s.heap.get? a = some ob ∧ ob.cls ≠ .type "tuple" := by
  cases o with
  | lst xs =>
    obtain ⟨_, its, n, _, e⟩ : xs.length ≤ sizeLine ∧ ∃ (its : List Value) (n : Nat), Vals xs its ∧ s.heap.get? a = some { cls := .type "list", data := .seq its.toArray n } := I.hok a _ h
    exact ⟨_, e, (by show Value.type "list" ≠ .type "tuple"; decide +kernel)⟩
  | ins C dx fs =>
    have x := I.hok a _ h
    obtain ⟨_, _, _, e, _⟩ := x
    exact ⟨_, e, (by show Value.ref C ≠ .type "tuple"; exact fun z => by cases z)⟩
  | _ => exact absurd (show false = true from p) Bool.false_ne_true
theorem op_is_ref : OpR X (compareOp .Is) (fun x y H Q => ∃ a b oa ob, x = .ref a ∧ y = .ref b ∧ H a = some oa ∧ isObj oa = true ∧ H b = some ob ∧ isObj ob = true ∧ Q (.bl (decide (a = b))) H) := by
  intro pins s σ H x y v u Q I rx ry h
  obtain ⟨a, b, oa, ob, rfl, rfl, ha, pa, hb, pb, q⟩ := h
  cases rx
  cases ry
  obtain ⟨o1, e1, n1⟩ := obj_there I ha pa
  obtain ⟨o2, e2, _⟩ := obj_there I hb pb
  by_cases z : a = b
  · subst z
    exact wpAny_is_ref_self (fin_bl I q (by simp))
  · exact wpAny_is_ref_other z e1 e2 n1 (fin_bl I q (by simp [z]))
theorem op_isnot_ref : OpR X (compareOp .IsNot) (fun x y H Q => ∃ a b oa ob, x = .ref a ∧ y = .ref b ∧ H a = some oa ∧ isObj oa = true ∧ H b = some ob ∧ isObj ob = true ∧ Q (.bl (!decide (a = b))) H) := by
  intro pins s σ H x y v u Q I rx ry h
  obtain ⟨a, b, oa, ob, rfl, rfl, ha, pa, hb, pb, q⟩ := h
  cases rx
  cases ry
  obtain ⟨o1, e1, n1⟩ := obj_there I ha pa
  obtain ⟨o2, e2, _⟩ := obj_there I hb pb
  by_cases z : a = b
  · subst z
    exact wpAny_isNot_ref_self (fin_bl I q (by simp))
  · exact wpAny_isNot_ref_other z e1 e2 n1 (fin_bl I q (by simp [z]))

/-- two rules for one operation: by cases -/
theorem OpR.or {f : Value → Value → Sem Value} {r r' : R2} (h : OpR X f r) (h' : OpR X f r') : OpR X f (fun x y H Q => r x y H Q ∨ r' x y H Q) := by
  intro pins s σ H x y v u Q I rx ry q
  rcases q with q | q
  · exact h pins s σ H x y v u Q I rx ry q
  · exact h' pins s σ H x y v u Q I rx ry q

theorem nomark (b : Expr) {op : CmpOp} (h : op ≠ .In := by decide) (h2 : op ≠ .NotIn := by decide) : behindInMarks op b = false := by
  have e1 : (op == CmpOp.In) = false := by cases op <;> first | rfl | exact absurd rfl h
  have e2 : (op == CmpOp.NotIn) = false := by cases op <;> first | rfl | exact absurd rfl h2
  cases b <;> simp [behindInMarks, e1, e2]
/-- a comparison as a value; hm: nomark b, or (for in, not in) by with_unfolding_all rfl -/
theorem pe_cmpR {op : CmpOp} {r : R2} (ho : OpR X (compareOp op) r) (ha : PE X a ta) (hb : PE X b tb) (hm : behindInMarks op b = false) : PE X (.Compare a [op] [b] pos) (tOp r ta tb) := by
  intro pins s σ H Q I h
  exact wpAny_Compare1 (binT ha hb I h fun v u s2 x y H2 I2 rx ry q => ho pins s2 σ H2 x y v u Q I2 rx ry q) hm
/-- a reading of a value as a test -/
def tTest (t : TE) : TT := fun σ H Q => t σ H fun x H' => ∃ k, x = .bl k ∧ Q k H'
theorem pt_cmpR {op : CmpOp} {r : R2} (ho : OpR X (compareOp op) r) (ha : PE X a ta) (hb : PE X b tb) (hm : behindInMarks op b = false) : PT X (.Compare a [op] [b] pos) (tTest (tOp r ta tb)) := by
  intro pins s σ H Q I h
  refine wpAny_isTrue_Compare1 (thn (ha pins s σ H _ I h) fun v s1 ⟨x, H1, I1, r1, q1⟩ => thn (hb pins s1 σ H1 _ I1 q1) fun u s2 ⟨y, H2, I2, r2, q2⟩ =>
    thn (ho pins s2 σ H2 x y v u _ I2 r1 r2 q2) fun c s3 ⟨z, H3, I3, r3, k, e, q3⟩ => ?_) hm
  subst e
  cases r3
  exact wpAny_truthy_bool ⟨H3, I3, q3⟩
/-- a op1 b op2 c -/
def tChain (r r' : R2) (ta tb tc : TE) : TE := fun σ H Q => ta σ H fun x H1 => tb σ H1 fun y H2 => r x y H2 fun z H3 => ∃ k, z = .bl k ∧
  (if k = true then tc σ H3 fun w' H4 => r' y w' H4 Q else Q (.bl false) H3)
theorem pe_chain {op op' : CmpOp} {r r' : R2} (ho : OpR X (compareOp op) r) (ho' : OpR X (compareOp op') r') (ha : PE X a ta) (hb : PE X b tb) (hc : PE X c tc)
    (hm : lastMarks [op, op'] [b, c] = false := by with_unfolding_all rfl) : PE X (.Compare a [op, op'] [b, c] pos) (tChain r r' ta tb tc) := by
  intro pins s σ H Q I h
  refine Compare_chain (thn (ha pins s σ H _ I h) fun v s1 ⟨x, H1, I1, r1, q1⟩ => chain_link (thn (hb pins s1 σ H1 _ I1 q1) fun u s2 ⟨y, H2, I2, r2, q2⟩ =>
    thn (ho pins s2 σ H2 x y v u _ I2 r1 r2 q2) fun d s3 ⟨z, H3, I3, r3, k, e, q3⟩ => ?_)) hm
  subst e
  cases r3
  refine wpAny_truthy_bool ?_
  cases k with
  | false => exact ite_ff ⟨.bl false, H3, I3, rfl, q3⟩
  | true => exact ite_tt (chain_last (thn (hc pins s3 σ H3 _ I3 q3) fun w' s4 ⟨z', H4, I4, r4, q4⟩ => ho' pins s4 σ H4 y z' u w' Q I4 r2 r4 q4))
theorem pt_chain {op op' : CmpOp} {r r' : R2} (ho : OpR X (compareOp op) r) (ho' : OpR X (compareOp op') r') (ha : PE X a ta) (hb : PE X b tb) (hc : PE X c tc)
    (hm : lastMarks [op, op'] [b, c] = false := by with_unfolding_all rfl) : PT X (.Compare a [op, op'] [b, c] pos) (tTest (tChain r r' ta tb tc)) := by
  intro pins s σ H Q I h
  refine isTrue_chain (thn (ha pins s σ H _ I h) fun v s1 ⟨x, H1, I1, r1, q1⟩ => test_link (thn (hb pins s1 σ H1 _ I1 q1) fun u s2 ⟨y, H2, I2, r2, q2⟩ =>
    thn (ho pins s2 σ H2 x y v u _ I2 r1 r2 q2) fun d s3 ⟨z, H3, I3, r3, k, e, q3⟩ => ?_)) hm
  subst e
  cases r3
  refine wpAny_truthy_bool ?_
  cases k with
  | false =>
    obtain ⟨k', e', q'⟩ := q3
    cases e'
    exact ite_ff ⟨H3, I3, q'⟩
  | true =>
    refine ite_tt (test_last (thn (hc pins s3 σ H3 _ I3 q3) fun w' s4 ⟨z', H4, I4, r4, q4⟩ => thn (ho' pins s4 σ H4 y z' u w' _ I4 r2 r4 q4) fun d' s5 ⟨z2, H5, I5, r5, k2, e2, q5⟩ => ?_))
    subst e2
    cases r5
    exact wpAny_truthy_bool ⟨H5, I5, q5⟩

/-! ### truth -/
/-- a value's truth by the abstract heap -/
def TruV (K : PySem.W.Frag) (x : V) (H : Hp) (k : Bool) : Prop :=
  match x with
  | .non => k = false
  | .bl b => k = b
  | .int i => k = (i != 0)
  | .str y => y.length ≤ sizeLine ∧ k = ((y.length : Int) != 0)
  | .byt y => y.size ≤ sizeLine ∧ k = ((y.size : Int) != 0)
  | .ref p => (∃ xs, SqL K H p xs ∧ k = !xs.isEmpty) ∨ (∃ xs, SqT K H p xs ∧ k = !xs.isEmpty) ∨ ∃ kvs, H p = some (.dK kvs) ∧ k = !kvs.isEmpty
  | _ => False
theorem isEmpty_kv {κ : Type} {kvs : List (κ × V)} {vs : List (κ × Value)} (r : KV kvs vs) : (!vs.isEmpty) = !kvs.isEmpty := by
  cases r <;> rfl
theorem isEmpty_of {xs : List V} {its : List Value} (r : Vals xs its) : (!its.toArray.isEmpty) = !xs.isEmpty := by
  cases r <;> simp
theorem line63 : (sizeLine : Nat) < 2 ^ 63 := by rw [sizeLine_eq]; decide
theorem tru_ok : TruR X (fun x H Q => ∃ k, TruV X.K x H k ∧ Q k H) := by
  intro pins s σ H x v Q I rx h
  obtain ⟨k, e, q⟩ := h
  have hl := line63
  have hs : sizeLine = 16777216 := sizeLine_eq
  cases x with
  | non =>
    cases rx
    have e' : k = false := e
    subst e'
    exact truthy_none ⟨H, I, q⟩
  | bl b =>
    cases rx
    have e' : k = b := e
    subst e'
    exact wpAny_truthy_bool ⟨H, I, q⟩
  | int i =>
    obtain ⟨t, rfl⟩ := rx
    have e' : k = (i != 0) := e
    subst e'
    exact PySem.P.truthy_int ⟨H, I, q⟩
  | str y =>
    obtain ⟨t, rfl⟩ := rx
    obtain ⟨hy, e'⟩ : y.length ≤ sizeLine ∧ k = ((y.length : Int) != 0) := e
    subst e'
    exact PySem.P.truthy_str (by omega) ⟨H, I.tok _, q⟩
  | byt y =>
    obtain ⟨t, rfl⟩ := rx
    obtain ⟨hy, e'⟩ : y.size ≤ sizeLine ∧ k = ((y.size : Int) != 0) := e
    subst e'
    exact PySem.W.truthy_bytes (by omega) ⟨H, I.tok _, q⟩
  | ref p =>
    cases rx
    have e' : (∃ xs, SqL X.K H p xs ∧ k = !xs.isEmpty) ∨ (∃ xs, SqT X.K H p xs ∧ k = !xs.isEmpty) ∨ ∃ kvs, H p = some (.dK kvs) ∧ k = !kvs.isEmpty := e
    rcases e' with ⟨xs, hx, e'⟩ | ⟨xs, hx, e'⟩ | ⟨kvs, hx, e'⟩
    · subst e'
      obtain ⟨its, r, pl, hz⟩ := I.list hx
      have hlen := r.length
      exact wpAny_truthy_list pl.isList (by simp only [List.size_toArray]; omega) ⟨H, I.tok _, by rw [isEmpty_of r]; exact q⟩
    · subst e'
      obtain ⟨its, r, pl, hz⟩ := I.tuple hx
      have hlen := r.length
      exact truthy_tuple pl (by simp only [List.size_toArray]; omega) ⟨H, I.tok _, by rw [isEmpty_of r]; exact q⟩
    · subst e'
      obtain ⟨hz, hS, vs, r, m⟩ : kvs.length ≤ sizeLine ∧ (p == sysModules) = false ∧ ∃ vs, KV kvs vs ∧ s.heap.DictOf (mixKind X.prog X.w) p vs := I.hok p _ hx
      have hlen : kvs.length = vs.length := Paired.length r
      exact wpAny_truthy_dict hS m (by omega) ⟨H, I.tok _, by rw [isEmpty_kv r]; exact q⟩
  | _ => exact (show False from e).elim
/-- any expression whose test is its value's truth (a name, a call, a subscript, a field ..: he by fun _ => rfl) -/
theorem pt_truth (ha : PE X a ta) (he : ∀ whole, isTrue a X.env whole = (do let v ← whole; standAt a.pos; holding [v] (truthy v))) :
    PT X a (fun σ H Q => ta σ H fun x H' => ∃ k, TruV X.K x H' k ∧ Q k H') := by
  intro pins s σ H Q I h
  exact isTrue_plain (thn (ha pins s σ H _ I h) fun v s1 ⟨x, H1, I1, r1, q1⟩ => tru_ok pins s1 σ H1 x v Q I1 r1 q1) (he _)

/-! ### strs and bytes -/
theorem pe_byt {x : List UInt8} {k : Nat} : PE X (.Constant (.bytes x) k pos) (fun _ H Q => Q (.byt x.toArray) H) := fun _ _ _ H _ I h => PySem.W.Constant_bytes ⟨.byt x.toArray, H, I.tok _, ⟨_, rfl⟩, h⟩
theorem op_add_str : OpR X (binaryOp .Add) (fun x y H Q => ∃ i j, x = .str i ∧ y = .str j ∧ i.length + j.length ≤ sizeLine ∧ Q (.str (i ++ j)) H) := by
  intro pins s σ H x y v u Q I rx ry h
  obtain ⟨i, j, rfl, rfl, hz, q⟩ := h
  obtain ⟨t, rfl⟩ := rx
  obtain ⟨t', rfl⟩ := ry
  exact add_str (fun t' tk => ⟨.str (i ++ j), H, I.tok _, ⟨_, rfl⟩, q⟩) hz
theorem iop_add_str : OpR X (inplaceOp .Add) (fun x y H Q => ∃ i j, x = .str i ∧ y = .str j ∧ i.length + j.length ≤ sizeLine ∧ Q (.str (i ++ j)) H) := by
  intro pins s σ H x y v u Q I rx ry h
  obtain ⟨i, j, rfl, rfl, hz, q⟩ := h
  obtain ⟨t, rfl⟩ := rx
  obtain ⟨t', rfl⟩ := ry
  exact iadd_str (fun t' tk => ⟨.str (i ++ j), H, I.tok _, ⟨_, rfl⟩, q⟩) hz
theorem op_add_byt : OpR X (binaryOp .Add) (fun x y H Q => ∃ i j, x = .byt i ∧ y = .byt j ∧ i.size + j.size ≤ 16777216 ∧ Q (.byt (i ++ j)) H) := by
  intro pins s σ H x y v u Q I rx ry h
  obtain ⟨i, j, rfl, rfl, hz, q⟩ := h
  obtain ⟨t, rfl⟩ := rx
  obtain ⟨t', rfl⟩ := ry
  exact PySem.W.KBy.add_bytes hz (fun t' tk => ⟨.byt (i ++ j), H, I.tok _, ⟨_, rfl⟩, q⟩)

def PlainIxT (b : Expr) : Prop := ∀ o i, subscripted b false o i = operate [o, i] (getItem o i)
/-- s[i], 0 ≤ i < len -/
theorem pe_item_str (ha : PE X a ta) (hb : PE X b tb) (hs : PlainIxT b) :
    PE X (.Subscript a b pos) (tOp (fun x y H Q => ∃ z i c, x = .str z ∧ y = .int i ∧ 0 ≤ i ∧ i < 2 ^ 63 ∧ i < z.length ∧ z.cps[i.toNat]? = some c ∧ Q (.str ⟨#[c]⟩) H) ta tb) := by
  intro pins s σ H Q I h
  refine Subscript_ (binT ha hb I h fun v u s2 x y H2 I2 rx ry q => ?_)
  obtain ⟨z, i, c, rfl, rfl, h0, h63, h1, hc, q⟩ := q
  obtain ⟨t, rfl⟩ := rx
  obtain ⟨t', rfl⟩ := ry
  have e : seqIndex? i z.length = some i.toNat := PySem.StrLaws.seqIndex_nonneg h0 h1
  exact tail_any (typeIs_str s2 z t) slot_str_getitem.lookup (getItem_str (c := c) (by
    have e1 : decide (i < -(2 ^ 63 : Int)) = false := decide_eq_false (by omega)
    have e2 : decide (i ≥ 2 ^ 63) = false := decide_eq_false (by omega)
    rw [e1, e2] <;> rfl) (by rw [e]; exact hc) ⟨.str ⟨#[c]⟩, H2, I2.tok _, ⟨_, rfl⟩, q⟩) (hs _ _)
/-- b[i], 0 ≤ i < len -/
theorem pe_item_byt (ha : PE X a ta) (hb : PE X b tb) (hs : PlainIxT b) :
    PE X (.Subscript a b pos) (tOp (fun x y H Q => ∃ (z : List UInt8) (i : Int), x = .byt z.toArray ∧ y = .int i ∧ z.length ≤ sizeLine ∧ 0 ≤ i ∧ i < z.length ∧ Q (.int ((z.getD i.toNat 0).toNat : Nat)) H) ta tb) := by
  intro pins s σ H Q I h
  refine Subscript_ (binT ha hb I h fun v u s2 x y H2 I2 rx ry q => ?_)
  obtain ⟨z, i, rfl, rfl, hz, h0, h1, q⟩ := q
  obtain ⟨t, rfl⟩ := rx
  obtain ⟨t', rfl⟩ := ry
  have hl : sizeLine = 16777216 := sizeLine_eq
  exact tail_any (PySem.W.typeIs_bytes s2 z.toArray t) PySem.W.FB.slot_bytes_getitem.lookup (PySem.W.getItem_bytes (by omega) h0 h1 ⟨.int ((z.getD i.toNat 0).toNat : Nat), H2, I2.tok _, ⟨_, rfl⟩, q⟩) (hs _ _)

/-! ### scalar builtins, by CallR -/
theorem vals1 {x : V} {us : List Value} (r : Vals [x] us) : ∃ u, us = [u] ∧ RelV x u := by
  cases r with
  | cons r1 r2 => cases r2; exact ⟨_, rfl, r1⟩
theorem vals2 {x y : V} {us : List Value} (r : Vals [x, y] us) : ∃ u w', us = [u, w'] ∧ RelV x u ∧ RelV y w' := by
  cases r with
  | cons r1 r2 =>
    cases r2 with
    | cons r3 r4 => cases r4; exact ⟨_, _, rfl, r1, r3⟩
theorem call_abs : CallR X (.builtin "abs") (fun xs H Q => ∃ i, xs = [.int i] ∧ Q (.int (if i < 0 then -i else i)) H) := by
  intro pins s σ H xs us Q I r h
  obtain ⟨i, rfl, q⟩ := h
  obtain ⟨u, rfl, t, rfl⟩ := vals1 r
  exact call_abs_int fun u tk => ⟨.int (if i < 0 then -i else i), H, I.tok _, ⟨_, rfl⟩, q⟩
theorem call_max2 (hc : X.calm = true) : CallR X (.builtin "max") (fun xs H Q => ∃ i j, xs = [.int i, .int j] ∧ Q (.int (if j > i then j else i)) H) := by
  intro pins s σ H xs us Q I r h
  obtain ⟨i, j, rfl, q⟩ := h
  obtain ⟨u, w', rfl, ⟨t, rfl⟩, ⟨t', rfl⟩⟩ := vals2 r
  refine max_two_ints (I.ok.hd hc) fun h' tk k => ⟨_, H, I.kept k, ?_, q⟩
  by_cases hj : j > i
  · rw [if_pos hj, if_pos hj]; exact ⟨_, rfl⟩
  · rw [if_neg hj, if_neg hj]; exact ⟨_, rfl⟩
theorem call_min2 (hc : X.calm = true) : CallR X (.builtin "min") (fun xs H Q => ∃ i j, xs = [.int i, .int j] ∧ Q (.int (if j < i then j else i)) H) := by
  intro pins s σ H xs us Q I r h
  obtain ⟨i, j, rfl, q⟩ := h
  obtain ⟨u, w', rfl, ⟨t, rfl⟩, ⟨t', rfl⟩⟩ := vals2 r
  refine min_two_ints (I.ok.hd hc) fun h' tk k => ⟨_, H, I.kept k, ?_, q⟩
  by_cases hj : j < i
  · rw [if_pos hj, if_pos hj]; exact ⟨_, rfl⟩
  · rw [if_neg hj, if_neg hj]; exact ⟨_, rfl⟩
theorem call_int1 : CallR X (.type "int") (fun xs H Q => (∃ i, xs = [.int i] ∧ Q (.int i) H) ∨ ∃ k, xs = [.bl k] ∧ Q (.int (if k then 1 else 0)) H) := by
  intro pins s σ H xs us Q I r h
  rcases h with ⟨i, rfl, q⟩ | ⟨k, rfl, q⟩
  · obtain ⟨u, rfl, t, rfl⟩ := vals1 r
    exact call_int_int ⟨.int i, H, I, ⟨_, rfl⟩, q⟩
  · obtain ⟨u, rfl, r1⟩ := vals1 r
    cases r1
    exact call_int_bool ⟨.int (if k then 1 else 0), H, I.tok _, ⟨_, rfl⟩, q⟩
theorem call_bool1 : CallR X (.type "bool") (fun xs H Q => (∃ i, xs = [.int i] ∧ Q (.bl (i != 0)) H) ∨ ∃ k, xs = [.bl k] ∧ Q (.bl k) H) := by
  intro pins s σ H xs us Q I r h
  rcases h with ⟨i, rfl, q⟩ | ⟨k, rfl, q⟩
  · obtain ⟨u, rfl, t, rfl⟩ := vals1 r
    exact call_bool_int ⟨.bl (i != 0), H, I, rfl, q⟩
  · obtain ⟨u, rfl, r1⟩ := vals1 r
    cases r1
    exact call_bool_bool ⟨.bl k, H, I, rfl, q⟩
theorem call_str_int : CallR X (.type "str") (fun xs H Q => ∃ i, xs = [.int i] ∧ i.natAbs.log2 < 1920 ∧ Q (.str (toString i)) H) := by
  intro pins s σ H xs us Q I r h
  obtain ⟨i, rfl, hz, q⟩ := h
  obtain ⟨u, rfl, t, rfl⟩ := vals1 r
  exact PySem.P.str_of_int hz ⟨.str _, H, I.tok _, ⟨_, rfl⟩, q⟩
theorem call_ord : CallR X (.builtin "ord") (fun xs H Q => ∃ x, xs = [.str x] ∧ x.length = 1 ∧ Q (.int (x.cps.getD 0 0 : Nat)) H) := by
  intro pins s σ H xs us Q I r h
  obtain ⟨x, rfl, hz, q⟩ := h
  obtain ⟨u, rfl, t, rfl⟩ := vals1 r
  exact ord_of_one hz ⟨.int _, H, I.tok _, ⟨_, rfl⟩, q⟩
theorem call_chr : CallR X (.builtin "chr") (fun xs H Q => ∃ i, xs = [.int i] ∧ 0 ≤ i ∧ i ≤ 1114111 ∧ Q (.str ⟨#[i.toNat]⟩) H) := by
  intro pins s σ H xs us Q I r h
  obtain ⟨i, rfl, h0, h1, q⟩ := h
  obtain ⟨u, rfl, t, rfl⟩ := vals1 r
  exact chr_of_range h0 h1 ⟨.str _, H, I.tok _, ⟨_, rfl⟩, q⟩
/-- len of a str, a bytes, a list, a tuple -/
def LenV (K : PySem.W.Frag) (x : V) (H : Hp) (n : Nat) : Prop :=
  match x with
  | .str y => y.length ≤ sizeLine ∧ n = y.length
  | .byt y => y.size ≤ sizeLine ∧ n = y.size
  | .ref p => (∃ xs, SqL K H p xs ∧ n = xs.length) ∨ ∃ xs, SqT K H p xs ∧ n = xs.length
  | _ => False
theorem call_len : CallR X (.builtin "len") (fun xs H Q => ∃ x n, xs = [x] ∧ LenV X.K x H n ∧ Q (.int n) H) := by
  intro pins s σ H xs us Q I r h
  obtain ⟨x, n, rfl, e, q⟩ := h
  obtain ⟨u, rfl, rx⟩ := vals1 r
  have hl := line63
  have hs : sizeLine = 16777216 := sizeLine_eq
  cases x with
  | str y =>
    obtain ⟨t, rfl⟩ := rx
    obtain ⟨hy, e'⟩ : y.length ≤ sizeLine ∧ n = y.length := e
    subst e'
    exact len_str (by omega) ⟨.int _, H, I.tok _, ⟨_, rfl⟩, q⟩
  | byt y =>
    obtain ⟨t, rfl⟩ := rx
    obtain ⟨hy, e'⟩ : y.size ≤ sizeLine ∧ n = y.size := e
    subst e'
    exact PySem.W.len_bytes (by omega) ⟨.int _, H, I.tok _, ⟨_, rfl⟩, q⟩
  | ref p =>
    cases rx
    have e' : (∃ xs, SqL X.K H p xs ∧ n = xs.length) ∨ ∃ xs, SqT X.K H p xs ∧ n = xs.length := e
    rcases e' with ⟨xs, hx, e'⟩ | ⟨xs, hx, e'⟩
    · subst e'
      obtain ⟨its, r', pl, hz⟩ := I.list hx
      have hlen := r'.length
      exact Calls.call_len_list pl.isList (by simp only [List.size_toArray]; omega) ⟨.int xs.length, H, I.tok _, ⟨_, by simp only [List.size_toArray]; rw [hlen]⟩, q⟩
    · subst e'
      obtain ⟨its, r', pl, hz⟩ := I.tuple hx
      have hlen := r'.length
      exact len_tuple pl (by simp only [List.size_toArray]; omega) ⟨.int xs.length, H, I.tok _, ⟨_, by simp only [List.size_toArray]; rw [hlen]⟩, q⟩
  | _ => exact (show False from e).elim
/-- divmod: a new tuple -/
theorem call_divmod : CallR X (.builtin "divmod") (fun xs H Q => ∃ i j, xs = [.int i, .int j] ∧ CDiv i j ∧ ∀ p, H p = none → Q (.ref p) (upd H p (.tup [.int (i / j), .int (i % j)]))) := by
  intro pins s σ H xs us Q I r h
  obtain ⟨i, j, rfl, ⟨h1, h2⟩, q⟩ := h
  obtain ⟨u, w', rfl, ⟨t, rfl⟩, ⟨t', rfl⟩⟩ := vals2 r
  refine divmod_int (by omega) ?_ (.inl (PyProof.noPylong_small (by omega)))
  rw [Int.fdiv_eq_ediv_of_nonneg i (by omega), Int.fmod_eq_emod_of_nonneg i (by omega)]
  have hn : H s.heap.objs.size = none := I.hok.fresh (Nat.le_refl _)
  refine ⟨.ref s.heap.objs.size, _, ?_, rfl, q _ hn⟩
  refine I.laid (fun b o e => Heap.get?_push_of_some _ e) (Nat.le_refl _) ⟨by simp only [List.length_cons, List.length_nil]; rw [sizeLine_eq]; decide, [.int (i / j) s.toks, .int (i % j) (s.toks + 1)], .cons ⟨_, rfl⟩ (.cons ⟨_, rfl⟩ .nil), ?_⟩
  exact ⟨_, Heap.get?_push_size s.heap rfl, rfl, 0, rfl⟩
end
end L2

namespace L2
open PySem PySem.Spec PyProof.Rows

/-! ### an instance, its attributes a map -/
structure ObjM (h : Heap) (x dx C : Addr) (mA : Str → Option Value) : Prop where
  obj : h.get? x = some (PySem.W.instObj C dx)
  ns : h.Ns1 dx mA
  ne : dx ≠ x

theorem lookIn_ns {h : Heap} {dx : Addr} {mA : Str → Option Value} (n : h.Ns1 dx mA) : ∃ od, h.get? dx = some od ∧ ∀ name, PySem.W.lookIn name od = some (mA name) := by
  obtain ⟨o, es, ep, ho, hd, hk, _, hm⟩ := n
  refine ⟨o, ho, fun name => ?_⟩
  have e := hm name
  unfold nsFind findBy at e
  rw [← Array.find?_toList] at e
  unfold PySem.W.lookIn
  rw [hd]
  dsimp only
  split
  · rename_i y q
    rw [q] at e
    exact congrArg some e
  · rename_i q
    rw [q] at e
    have a : es.toList.any (·.refKey) = false := by
      rw [List.any_eq_false]
      intro y hy
      obtain ⟨z, t, hkey⟩ := hk y (Array.mem_toList_iff.mp hy)
      simp [DictEntry.refKey, hkey]
    have a' : ¬ es.toList.any (·.refKey) = true := by rw [a]; exact Bool.false_ne_true
    rw [if_neg a']
    exact congrArg some e

theorem ObjM.look {h : Heap} {x dx C : Addr} {mA : Str → Option Value} (I : ObjM h x dx C mA) : ∃ od, PySem.W.InstAt h x (PySem.W.instObj C dx) C (some od) ∧ ∀ name, PySem.W.lookIn name od = some (mA name) :=
  let ⟨od, ho, hl⟩ := lookIn_ns I.ns
  ⟨od, ⟨I.obj, rfl, rfl, ho⟩, hl⟩

section
variable {prog : Program} {w : World} {A : Around} {E : Value → Shared → Prop} {s : Shared} {K : PySem.W.Frag} {x dx C f : Addr} {mA : Str → Option Value} {name : Str} {v : Value}

theorem get_map {expr : Bool} {Q : Value → Shared → Prop} (X : K.In s.heap) (I : ObjM s.heap x dx C mA) (hg : PySem.W.plainGet K C name = true) (hh : PySem.W.hasDictIn K C = true)
    (ha : PySem.W.findIn K (.ref C) name = some none) (hv : mA name = some v) (hv' : PySem.W.handedIn v = true) (h : Q v { s with toks := s.toks + 1 }) :
    wpAny (model prog w) A (getAttr (.ref x) name expr) Q E s := by
  obtain ⟨od, J, hl⟩ := I.look
  exact PySem.W.get_value X J (PySem.W.plainGet_of hg).1 (PySem.W.findObj_own hh ha rfl (by rw [hl, hv])) hv' h

theorem get_const {expr : Bool} {a : Value} {Q : Value → Shared → Prop} (X : K.In s.heap) (I : ObjM s.heap x dx C mA) (hg : PySem.W.plainGet K C name = true) (hh : PySem.W.hasDictIn K C = true)
    (ha : PySem.W.findIn K (.ref C) name = some (some a)) (hn : PySem.W.specialIn K a "__get__" = some none) (hc : PySem.W.copiedNames.contains name = false) (hv : mA name = none) (hv' : PySem.W.handedIn a = true)
    (h : Q a { s with toks := s.toks + 1 }) : wpAny (model prog w) A (getAttr (.ref x) name expr) Q E s := by
  obtain ⟨od, J, hl⟩ := I.look
  exact PySem.W.get_value X J (PySem.W.plainGet_of hg).1 (PySem.W.findObj_cls hh ha hn hv' hc (by rw [hl, hv])) hv' h

theorem get_meth {pl : Sem Bool} {Q : Value × List Value → Shared → Prop} (X : K.In s.heap) (I : ObjM s.heap x dx C mA) (hg : PySem.W.plainGet K C name = true)
    (hf : PySem.W.findIn K (.ref C) name = some (some (.ref f))) (ht : PySem.W.isFn K (.ref f) = true) (hv : mA name = none) (h : Q (.ref f, [.ref x]) s) :
    wpAny (model prog w) A (getMethod (.ref x) name pl) Q E s := by
  obtain ⟨od, J, hl⟩ := I.look
  exact PySem.W.method_fn X J (PySem.W.plainGet_of hg).1 (PySem.W.plainGet_of hg).2 hf (beq_iff_eq.mp ht) (by show (PySem.W.lookIn name od).map (·.isSome) = some false; rw [hl, hv]; rfl) h

theorem set_map {ns : List Str} {Q : Unit → Shared → Prop} (X : K.In s.heap) (I : ObjM s.heap x dx C mA)
    (hs : PySem.W.findIn K (.ref C) "__setattr__" = some (some (.builtin "object.__setattr__"))) (hp : PySem.W.plainOver K C = true) (ht : PySem.W.takerIn K C name = some none) (hh : PySem.W.hasDictIn K C = true)
    (hw : PySem.Within mA ns) (hsz : ns.length ≤ sizeLine)
    (h : ∀ h', ObjM h' x dx C (fun y => if y = name then some v else mA y) → Heap.SameBut dx s.heap h' → Q () { s with heap := h', toks := s.toks + 2 }) :
    wpAny (model prog w) A (setAttr (.ref x) name v) Q E s := by
  obtain ⟨od, J, hl⟩ := I.look
  refine PySem.W.set_plain X J hs (PySem.W.osa_open (s := { s with toks := s.toks + 1 }) (r := none) X J hp ht fun b => ?_)
  obtain ⟨cd, hc, hd'⟩ := PySem.W.any_some hh
  have hx : s.heap.get? x = some ⟨.ref C, some dx, .plain, #[]⟩ := I.obj
  refine wpAny_bind (wpAny_pure (wpAny_bind (wpAny_bind (wpAny_loadPart hx (wpAny_bind (PySem.W.Looks.here (s := { s with toks := s.toks + 1 }) (PySem.W.looks_clsIn X hc) ?_))))))
  rw [hd']
  refine wpAny_pure (a := some dx) (wpAny_bind (wpAny_pure (wpAny_bind ?_)))
  refine wpAny_nsSet1 (s := { s with toks := s.toks + 1 }) I.ns fun h' hn2 hs2 => ?_
  obtain ⟨oD, esD, epD, hoD, hdD, hcD⟩ := hn2.count (PySem.Within.cons name v hw)
  refine wpAny_bind (wpAny_lookBehind hoD (by rw [hdD]; exact pastItsLine_dict (Nat.le_trans hcD (by rw [List.length_cons]; omega))) ?_)
  exact wpAny_pure (h _ ⟨(hs2.2 _ (Ne.symm I.ne)).trans I.obj, hn2, I.ne⟩ hs2)

/-- C(..): the dict at the heap's end, the instance behind it; then its __init__ -/
theorem make_map {R : Result → Shared → Prop} {vs : List Value} {kw : List (Str × Value)} (X : K.In s.heap) (hm : PySem.W.makesIn K C = true)
    (hi : PySem.W.findIn K (.ref C) "__init__" = some (some (.ref f))) (hf : PySem.W.typeIn K (.ref f) = some (.type "function"))
    (h : codeAny (model prog w) (A.under (.builtin "type.__call__" ⟨.ref C :: vs, kw⟩)) (.call (.ref f) ⟨.ref (s.heap.objs.size + 1) :: vs, kw⟩) (PySem.W.InitBack (s.heap.objs.size + 1) R)
      { s with heap := (s.heap.push PySem.W.emptyDict).push (PySem.W.instObj C s.heap.objs.size) }) :
    codeAny (model prog w) A (.call (.ref C) ⟨vs, kw⟩) R s := by
  obtain ⟨hh, g, d, t, os⟩ := s
  exact PySem.W.make_core (PySem.W.makes_of X hm) (PySem.W.looks_findIn X hi) (fun self => PySem.W.bind_fn X self hf) (.inl rfl) h
/-- C() where there is no __init__ but object's -/
theorem make_map0 {R : Result → Shared → Prop} (X : K.In s.heap) (hm : PySem.W.makesIn K C = true)
    (hi : PySem.W.findIn K (.ref C) "__init__" = some (some (.builtin "object.__init__")))
    (hb : ∀ self, PySem.W.Looks (model prog w) s.heap (bindSpecial (.builtin "object.__init__") self) (.builtin "object.__init__", [self]))
    (h : codeAny (model prog w) (A.under (.builtin "type.__call__" ⟨[.ref C], []⟩)) (.call (.builtin "object.__init__") ⟨[.ref (s.heap.objs.size + 1)], []⟩) (PySem.W.InitBack (s.heap.objs.size + 1) R)
      { s with heap := (s.heap.push PySem.W.emptyDict).push (PySem.W.instObj C s.heap.objs.size) }) :
    codeAny (model prog w) A (.call (.ref C) ⟨[], []⟩) R s := by
  obtain ⟨hh, g, d, t, os⟩ := s
  exact PySem.W.make_core (PySem.W.makes_of X hm) (PySem.W.looks_findIn X hi) hb (.inr ⟨rfl, rfl⟩) h
end

/-! ### the attributes as a list of pairs -/
def putF (f : Str) (v : V) : List (Str × V) → List (Str × V)
  | [] => [(f, v)]
  | (g, x) :: r => if g = f then (g, v) :: r else (g, x) :: putF f v r
theorem lookup_putF (f g : Str) (v : V) : ∀ fs : List (Str × V), (putF f v fs).lookup g = if g = f then some v else fs.lookup g
  | [] => by
    show List.lookup g [(f, v)] = _
    by_cases h : g = f
    · have hb : (g == f) = true := beq_iff_eq.mpr h
      simp only [List.lookup, hb, if_pos h]
    · have hb : (g == f) = false := beq_eq_false_iff_ne.mpr h
      simp only [List.lookup, hb, if_neg h]
  | (k, x) :: r => by
    have ih := lookup_putF f g v r
    rw [show putF f v ((k, x) :: r) = (if k = f then (k, v) :: r else (k, x) :: putF f v r) from rfl]
    by_cases hk : k = f
    · rw [if_pos hk]
      by_cases h : g = k
      · have hb : (g == k) = true := beq_iff_eq.mpr h
        simp only [List.lookup, hb, if_pos (h.trans hk)]
      · have hb : (g == k) = false := beq_eq_false_iff_ne.mpr h
        simp only [List.lookup, hb, if_neg (fun e : g = f => h (e.trans hk.symm))]
    · rw [if_neg hk]
      by_cases h : g = k
      · have hb : (g == k) = true := beq_iff_eq.mpr h
        simp only [List.lookup, hb, if_neg (fun e : g = f => hk (h.symm.trans e))]
      · have hb : (g == k) = false := beq_eq_false_iff_ne.mpr h
        simp only [List.lookup, hb]
        exact ih
theorem keys_putF (f : Str) (v : V) : ∀ fs : List (Str × V), f ∈ (putF f v fs).map (·.1) ∧ ∀ g, g ∈ fs.map (·.1) → g ∈ (putF f v fs).map (·.1)
  | [] => ⟨by simp [putF], fun g h => by simp at h⟩
  | (k, x) :: r => by
    obtain ⟨i1, i2⟩ := keys_putF f v r
    rw [show putF f v ((k, x) :: r) = (if k = f then (k, v) :: r else (k, x) :: putF f v r) from rfl]
    by_cases hk : k = f
    · rw [if_pos hk]
      subst hk
      exact ⟨by simp, fun g h => by simpa using h⟩
    · rw [if_neg hk]
      refine ⟨?_, fun g h => ?_⟩
      · rw [List.map_cons]
        exact List.mem_cons_of_mem _ i1
      · rw [List.map_cons] at h ⊢
        rcases List.mem_cons.mp h with e | e
        · exact List.mem_cons.mpr (.inl e)
        · exact List.mem_cons_of_mem _ (i2 g e)
theorem length_putF (f : Str) (v : V) : ∀ fs : List (Str × V), (putF f v fs).length ≤ fs.length + 1
  | [] => by simp [putF]
  | (k, x) :: r => by
    have ih := length_putF f v r
    rw [show putF f v ((k, x) :: r) = (if k = f then (k, v) :: r else (k, x) :: putF f v r) from rfl]
    by_cases hk : k = f
    · rw [if_pos hk, List.length_cons, List.length_cons]; omega
    · rw [if_neg hk, List.length_cons, List.length_cons]; omega

theorem RelO.some_of {v : V} {o : Option Value} (r : RelO (some v) o) : ∃ u, o = some u ∧ RelV v u := by
  cases o with
  | none => exact (show False from r).elim
  | some u => exact ⟨u, rfl, r⟩
theorem RelO.none_of {o : Option Value} (r : RelO none o) : o = none := by
  cases o with
  | none => rfl
  | some u => exact (show False from r).elim
theorem handed_of {v : V} {u : Value} (r : RelV v u) : PySem.W.handedIn u = true := by
  cases v with
  | non => cases (show u = Value.none from r); rfl
  | bl b => cases (show u = Value.bool b from r); rfl
  | int i => obtain ⟨t, e⟩ := (show ∃ t, u = Value.int i t from r); cases e; rfl
  | str x => obtain ⟨t, e⟩ := (show ∃ t, u = Value.str x t from r); cases e; rfl
  | byt b => obtain ⟨t, e⟩ := (show ∃ t, u = Value.bytes b t from r); cases e; rfl
  | flt b => obtain ⟨t, e⟩ := (show ∃ t, u = Value.float b t from r); cases e; rfl
  | ref a => cases (show u = Value.ref a from r); rfl
  | ty n => cases (show u = Value.type n from r); rfl

section
variable {P : Program} {w : World} {H H' : Hp} {h h' : Heap} {a C dx : Addr} {fs fs' : List (Str × V)}
theorem ins_get (hok : HOk P w H h) (e : H a = some (.ins C dx fs)) : ∃ mA, ObjM h a dx C mA ∧ (∀ f, RelO (fs.lookup f) (mA f)) ∧ PySem.Within mA (fs.map (·.1)) ∧ fs.length ≤ 1000 ∧ H dx = some (.own a) := by
  obtain ⟨d, z, ne, ob, mA, n, r, q⟩ := (show ObjOk P w H h a (.ins C dx fs) from hok a _ e)
  exact ⟨mA, ⟨ob, n, ne⟩, r, q, z, d⟩
end

/-! ### what of the text a class must have -/
structure Cls (K : PySem.W.Frag) (C : Addr) : Prop where
  pg : PySem.W.plainGet K C Str.empty = true
  hd : PySem.W.hasDictIn K C = true
  po : PySem.W.plainOver K C = true
  sa : PySem.W.findIn K (.ref C) "__setattr__" = some (some (.builtin "object.__setattr__"))
theorem Cls.get {K : PySem.W.Frag} {C : Addr} (c : Cls K C) (f : Str) : PySem.W.plainGet K C f = true := c.pg
/-- no class of it has the name -/
def NoAttr (K : PySem.W.Frag) (C : Addr) (f : Str) : Prop := PySem.W.findIn K (.ref C) f = some none
theorem NoAttr.taker {K : PySem.W.Frag} {C : Addr} {f : Str} (n : NoAttr K C f) : PySem.W.takerIn K C f = some none := by
  unfold PySem.W.takerIn
  rw [show PySem.W.findIn K (.ref C) f = some none from n]
  rfl
/-- a constant of the class -/
structure Con (K : PySem.W.Frag) (C : Addr) (f : Str) (v : V) (u : Value) : Prop where
  at_ : PySem.W.findIn K (.ref C) f = some (some u)
  rel : RelV v u
  get : PySem.W.specialIn K u "__get__" = some none
  cp : PySem.W.copiedNames.contains f = false
/-- a method: a plain def of the class or of one above it -/
structure Meth (K : PySem.W.Frag) (C : Addr) (m : Str) (f : Addr) : Prop where
  at_ : PySem.W.findIn K (.ref C) m = some (some (.ref f))
  fn : PySem.W.isFn K (.ref f) = true
  kp : PySem.W.keepIn K (.ref f) = true

section
variable {X : Cx} {pins : List (Addr × Obj)} {σ : St} {H : Hp} {s : Shared} {a C dx : Addr} {fs : List (Str × V)} {f : Str} {v : V} {A : Around} {E : Value → Shared → Prop}

theorem getattr_ok {b : Bool} {Q : Value → Shared → Prop} (I : Inv X pins σ H s) (e : H a = some (.ins C dx fs)) (c : Cls X.K C) (n : NoAttr X.K C f) (l : fs.lookup f = some v)
    (h : ∀ u s', Inv X pins σ H s' → RelV v u → Q u s') : wpAny (model X.prog X.w) A (getAttr (.ref a) f b) Q E s := by
  obtain ⟨mA, O, r, _, _, _⟩ := ins_get I.hok e
  obtain ⟨u, hu, ru⟩ := RelO.some_of (v := v) (o := mA f) (by rw [← l]; exact r f)
  exact get_map I.kIn O (c.get f) c.hd n hu (handed_of ru) (h u _ (I.tok _) ru)

theorem getcon_ok {b : Bool} {u : Value} {Q : Value → Shared → Prop} (I : Inv X pins σ H s) (e : H a = some (.ins C dx fs)) (c : Cls X.K C) (k : Con X.K C f v u) (l : fs.lookup f = none)
    (h : ∀ s', Inv X pins σ H s' → Q u s') : wpAny (model X.prog X.w) A (getAttr (.ref a) f b) Q E s := by
  obtain ⟨mA, O, r, _, _, _⟩ := ins_get I.hok e
  have hn : mA f = none := RelO.none_of (by rw [← l]; exact r f)
  exact get_const I.kIn O (c.get f) c.hd k.at_ k.get k.cp hn (handed_of k.rel) (h _ (I.tok _))

theorem getmeth_ok {m : Str} {g : Addr} {pl : Sem Bool} {Q : Value × List Value → Shared → Prop} (I : Inv X pins σ H s) (e : H a = some (.ins C dx fs)) (c : Cls X.K C) (k : Meth X.K C m g) (l : fs.lookup m = none)
    (h : Q (.ref g, [.ref a]) s) : wpAny (model X.prog X.w) A (getMethod (.ref a) m pl) Q E s := by
  obtain ⟨mA, O, r, _, _, _⟩ := ins_get I.hok e
  have hn : mA m = none := RelO.none_of (by rw [← l]; exact r m)
  exact get_meth I.kIn O (c.get m) k.at_ k.fn hn h

theorem setattr_ok {y : V} {u : Value} {Q : Unit → Shared → Prop} (I : Inv X pins σ H s) (e : H a = some (.ins C dx fs)) (c : Cls X.K C) (n : NoAttr X.K C f) (hl : fs.length < 1000) (ry : RelV y u)
    (h : ∀ s', Inv X pins σ (upd H a (.ins C dx (putF f y fs))) s' → Q () s') : wpAny (model X.prog X.w) A (setAttr (.ref a) f u) Q E s := by
  obtain ⟨mA, O, r, wi, _, ho⟩ := ins_get I.hok e
  have hz : (fs.map (·.1)).length ≤ sizeLine := by rw [List.length_map, sizeLine_eq]; omega
  refine set_map I.kIn O c.sa c.po n.taker c.hd wi hz fun h' O' sb => h _ ?_
  have hd : ∃ o, h'.get? dx = some o := let ⟨o, _, _, e', _⟩ := O'.ns; ⟨o, e'⟩
  refine I.write (x := a) (e := dx) (by rw [e]; exact True.intro) (.inr ho) (fun b q hb z => (sb.2 b hb).trans z) hd ?_
  refine ⟨by rw [upd_ne O.ne]; exact ho, ?_, O.ne, O'.obj, _, O'.ns, fun g => ?_, fun g hg => ?_⟩
  · have := length_putF f y fs; omega
  · show RelO ((putF f y fs).lookup g) (if g = f then some u else mA g)
    rw [lookup_putF]
    by_cases q : g = f
    · rw [if_pos q, if_pos q]; exact ry
    · rw [if_neg q, if_neg q]; exact r g
  · by_cases q : g = f
    · rw [q]; exact (keys_putF f y fs).1
    · refine (keys_putF f y fs).2 g (wi g fun z => hg ?_)
      show (if g = f then some u else mA g) = none
      rw [if_neg q]; exact z

/-- a new instance, tracked, without attributes -/
theorem Inv.made (I : Inv X pins σ H s) : Inv X pins σ (upd (upd H s.heap.objs.size (.own (s.heap.objs.size + 1))) (s.heap.objs.size + 1) (.ins C s.heap.objs.size []))
    { s with heap := (s.heap.push PySem.W.emptyDict).push (PySem.W.instObj C s.heap.objs.size) } := by
  have e1 : (s.heap.push PySem.W.emptyDict).get? s.heap.objs.size = some PySem.W.emptyDict := Heap.get?_push_size s.heap rfl
  have e2 : ((s.heap.push PySem.W.emptyDict).push (PySem.W.instObj C s.heap.objs.size)).get? (s.heap.objs.size + 1) = some (PySem.W.instObj C s.heap.objs.size) := by
    have := Heap.get?_push_size (s.heap.push PySem.W.emptyDict) (o := PySem.W.instObj C s.heap.objs.size) rfl
    rwa [Heap.size_push] at this
  have e3 : (s.heap.push PySem.W.emptyDict).Ns s.heap.objs.size (fun _ => none) := ⟨PySem.W.emptyDict, #[], _, e1, rfl, (fun e he => absurd he (by simp)), fun _ => rfl⟩
  have I1 := I.laid (a := s.heap.objs.size) (o := .own (s.heap.objs.size + 1)) (h' := s.heap.push PySem.W.emptyDict) (t' := s.toks) (fun b u q => Heap.get?_push_of_some _ q) (Nat.le_refl _) ⟨_, e1⟩
  refine I1.laid (a := s.heap.objs.size + 1) (o := .ins C s.heap.objs.size []) (t' := s.toks) (fun b u q => Heap.get?_push_of_some _ q) (Nat.le_of_eq (Heap.size_push _ _)) ?_
  have ne : s.heap.objs.size ≠ s.heap.objs.size + 1 := Nat.ne_of_lt (Nat.lt_succ_self _)
  refine ⟨by rw [upd_ne ne, upd_same], Nat.zero_le _, ne, e2, fun _ => none, (Heap.Ns1.of_empty e3).at fun o q => Heap.get?_push_of_some _ q, fun _ => True.intro, fun y hy => absurd rfl hy⟩

/-- e.f where nothing but the object is asked: through attributeBase (super) and the last hold -/
theorem attr_of {prog : Program} {w : World} {env : Env} {e : Expr} {f : Str} {pos : Pos} {s : Shared} {Q : Value → Shared → Prop} (hb : attributeBase e f env (eval e env) = eval e env)
    (h : wpAny (model prog w) A (eval e env) (fun o s₁ => wpAny (model prog w) A (getAttr o f true) Q E s₁) E s) : wpAny (model prog w) A (eval (.Attribute e f pos) env) Q E s :=
  Attribute_any_ h (by rw [arm_eval_Attribute, hb])
end

/-! ### readings and rules -/
/-- e.f, an attribute of the instance -/
def tFld (K : PySem.W.Frag) (ta : TE) (f : Str) : TE := fun σ H Q => ta σ H fun x H1 => ∃ a C dx fs v, x = .ref a ∧ H1 a = some (.ins C dx fs) ∧ Cls K C ∧ NoAttr K C f ∧ fs.lookup f = some v ∧ Q v H1
/-- e.f, a constant of the class -/
def tCon (K : PySem.W.Frag) (ta : TE) (f : Str) : TE := fun σ H Q => ta σ H fun x H1 => ∃ a C dx fs v u, x = .ref a ∧ H1 a = some (.ins C dx fs) ∧ Cls K C ∧ Con K C f v u ∧ fs.lookup f = none ∧ Q v H1
/-- e.f = value -/
def sFld (K : PySem.W.Frag) (ta tv : TE) (f : Str) : TS := fun D σ H => tv σ H fun y H1 => ta σ H1 fun x H2 => ∃ a C dx fs, x = .ref a ∧ H2 a = some (.ins C dx fs) ∧ Cls K C ∧ NoAttr K C f ∧ fs.length < 1000 ∧
  D.nx σ (upd H2 a (.ins C dx (putF f y fs)))
/-- an augmented operator on two values -/
def InOp (X : Cx) (op : Operator) (rd : V → V → Hp → VK → Prop) : Prop :=
  ∀ (pins : List (Addr × Obj)) (s : Shared) (σ : St) (H : Hp) (x y : V) (u v : Value) (Q : VK), Inv X pins σ H s → RelV x u → RelV y v → rd x y H Q → wpAny (model X.prog X.w) X.A (inplaceOp op u v) (EP X pins σ Q) X.xe s
/-- e.f op= value -/
def sFldAug (K : PySem.W.Frag) (ta tv : TE) (rd : V → V → Hp → VK → Prop) (f : Str) : TS := fun D σ H => ta σ H fun x H1 => ∃ a C dx fs v, x = .ref a ∧ H1 a = some (.ins C dx fs) ∧ Cls K C ∧ NoAttr K C f ∧ fs.lookup f = some v ∧
  tv σ H1 fun y H2 => rd v y H2 fun z H3 => ∃ dx' fs', H3 a = some (.ins C dx' fs') ∧ fs'.length < 1000 ∧ D.nx σ (upd H3 a (.ins C dx' (putF f z fs')))

section
variable {X : Cx} {o e value : Expr} {f : Str} {pos pos' tpos : Pos} {ta tv : TE}
theorem pe_fld (he : PE X e ta) (hb : attributeBase e f X.env (eval e X.env) = eval e X.env) : PE X (.Attribute e f pos) (tFld X.K ta f) := by
  intro pins s σ H Q I h
  refine attr_of hb (thn (he pins s σ H _ I h) fun u s1 ⟨x, H1, I1, rx, a, C, dx, fs, v, ex, ea, c, n, l, q⟩ => ?_)
  subst ex
  obtain rfl : u = Value.ref a := rx
  exact getattr_ok I1 ea c n l fun u' s2 I2 ru => ⟨v, H1, I2, ru, q⟩
theorem pe_con (he : PE X e ta) (hb : attributeBase e f X.env (eval e X.env) = eval e X.env) : PE X (.Attribute e f pos) (tCon X.K ta f) := by
  intro pins s σ H Q I h
  refine attr_of hb (thn (he pins s σ H _ I h) fun u s1 ⟨x, H1, I1, rx, a, C, dx, fs, v, u0, ex, ea, c, k, l, q⟩ => ?_)
  subst ex
  obtain rfl : u = Value.ref a := rx
  exact getcon_ok I1 ea c k l fun s2 I2 => ⟨v, H1, I2, k.rel, q⟩
theorem ps_fld (ha : PE X o ta) (hv : PE X value tv) (hs : swapsWith value (some (.Attribute o f pos')) pos.line X.env = pure false) : PS X (.Assign [.Attribute o f pos'] value pos) (sFld X.K ta tv f) := by
  intro pins s σ H D I h
  refine plainObj_wpAny_Assign_Attribute (thn (hv pins s σ H _ I h) fun u s1 ⟨y, H1, I1, ry, q⟩ => thn (ha pins s1 σ H1 _ I1 q) fun ov s2 ⟨x, H2, I2, rx, a, C, dx, fs, ex, ea, c, n, l, q2⟩ => ?_) hs
  subst ex
  obtain rfl : ov = Value.ref a := rx
  exact setattr_ok I2 ea c n l ry fun s3 I3 => ⟨σ, _, I3, q2⟩
theorem ps_fldaug {op : Operator} {rd : V → V → Hp → VK → Prop} (ha : PE X o ta) (hv : PE X value tv) (hop : InOp X op rd) : PS X (.AugAssign (.Attribute o f tpos) op value pos) (sFldAug X.K ta tv rd f) := by
  intro pins s σ H D I h
  refine wpAny_AugAssign_AttributeAny (thn (ha pins s σ H _ I h) fun ov s1 ⟨x, H1, I1, rx, a, C, dx, fs, v, ex, ea, c, n, l, q⟩ => ?_)
  subst ex
  obtain rfl : ov = Value.ref a := rx
  refine getattr_ok I1 ea c n l fun u s2 I2 ru => thn (hv pins s2 σ H1 _ I2 q) fun w3 s3 ⟨y, H2, I3, ry, q3⟩ => thn (hop pins s3 σ H2 v y u w3 _ I3 ru ry q3) fun w4 s4 ⟨z, H3, I4, rz, dx', fs', ea', l', q4⟩ => ?_
  exact setattr_ok I4 ea' c n l' rz fun s5 I5 => ⟨σ, _, I5, q4⟩
def rAdd : V → V → Hp → VK → Prop := fun x y H Q => ∃ i j, x = .int i ∧ y = .int j ∧ Q (.int (i + j)) H
def rSub : V → V → Hp → VK → Prop := fun x y H Q => ∃ i j, x = .int i ∧ y = .int j ∧ Q (.int (i - j)) H
theorem in_add : InOp X .Add rAdd := by
  rintro pins s σ H x y u v Q I rx ry ⟨i, j, rfl, rfl, q⟩
  obtain ⟨t, rfl⟩ := (show ∃ t, u = Value.int i t from rx)
  obtain ⟨t', rfl⟩ := (show ∃ t', v = Value.int j t' from ry)
  exact PyProof.Rows.iadd_int ⟨.int (i + j), H, I.tok _, ⟨_, rfl⟩, q⟩
theorem in_sub : InOp X .Sub rSub := by
  rintro pins s σ H x y u v Q I rx ry ⟨i, j, rfl, rfl, q⟩
  obtain ⟨t, rfl⟩ := (show ∃ t, u = Value.int i t from rx)
  obtain ⟨t', rfl⟩ := (show ∃ t', v = Value.int j t' from ry)
  exact PyProof.Rows.isub_int ⟨.int (i - j), H, I.tok _, ⟨_, rfl⟩, q⟩

/-- what is between an instance and its method: the tree of a method call -/
theorem methcall_of {pl : Sem Bool} {m : Str} {apos : Pos} {args : List Expr} {pins : List (Addr × Obj)} {s : Shared} {σ : St} {H : Hp} {Q : Value → Shared → Prop} {te : TE} (he : PE X e te) (I : Inv X pins σ H s)
    (h : te σ H fun x H1 => ∃ a C dx fs g, x = .ref a ∧ H1 a = some (.ins C dx fs) ∧ Cls X.K C ∧ Meth X.K C m g ∧ fs.lookup m = none ∧
      ∀ s1, Inv X pins σ H1 s1 → wpAny (model X.prog X.w) X.A (callWith pos (.ref g) [.ref a] (backTo pos (starEach args X.env)) (backToKw pos (keywordEach [] X.env))) Q X.xe s1)
    (ht : eval (.Call (.Attribute e m apos) args [] pos) X.env = (do
      let ov ← eval e X.env
      standAt apos.atName
      let (f, first) ← holding [ov] (getMethod ov m pl)
      callWith pos f first (backTo pos (starEach args X.env)) (backToKw pos (keywordEach [] X.env)))) :
    wpAny (model X.prog X.w) X.A (eval (.Call (.Attribute e m apos) args [] pos) X.env) Q X.xe s := by
  refine PySem.W.methodCall_KW (pl := pl) (thn (he pins s σ H _ I h) fun u s1 ⟨x, H1, I1, rx, a, C, dx, fs, g, ex, ea, c, k, l, q⟩ => ?_) ht
  subst ex
  obtain rfl : u = Value.ref a := rx
  exact getmeth_ok I1 ea c k l (q s1 I1)
end

/-! ### isinstance -/
section
variable {X : Cx} {pins : List (Addr × Obj)} {σ : St} {H : Hp} {s : Shared} {A : Around} {E : Value → Shared → Prop} {Q : Value → Shared → Prop} {c : Value} {b : Bool}
/-- the type of a value, as the fragment's deciders take it; for an instance its class -/
inductive TyOf (K : PySem.W.Frag) (H : Hp) : V → Value → Prop where
  | non : TyOf K H .non (.type "NoneType")
  | bl (x : Bool) : TyOf K H (.bl x) (.type "bool")
  | int (i : Int) : TyOf K H (.int i) (.type "int")
  | str (x : Str) : TyOf K H (.str x) (.type "str")
  | flt (x : UInt64) : TyOf K H (.flt x) (.type "float")
  | lst {a : Addr} {xs : List V} (e : H a = some (.lst xs)) : TyOf K H (.ref a) (.type "list")
  | frz {a : Addr} {o : Obj} {xs : List V} (e : H a = some (.frz o (.lst xs))) : TyOf K H (.ref a) (.type "list")
  | tup {a : Addr} {xs : List V} (e : H a = some (.tup xs)) : TyOf K H (.ref a) (.type "tuple")
  | dK {a : Addr} {kvs : List (Key × V)} (e : H a = some (.dK kvs)) : TyOf K H (.ref a) (.type "dict")
  | dT {a : Addr} {kvs : List (List Key × V)} (e : H a = some (.dT kvs)) : TyOf K H (.ref a) (.type "dict")
  | ins {a C dx : Addr} {fs : List (Str × V)} (e : H a = some (.ins C dx fs)) (cl : Cls K C) (ha : PySem.W.findIn K (.ref C) "__class__" = some (some (.builtin "object.__class__")))
      (hn : PySem.W.specialIn K (.builtin "object.__class__") "__get__" = some (some (.builtin "getset_descriptor.__get__"))) (htk : PySem.W.takesIn K (.builtin "object.__class__") = some true)
      (hm : PySem.W.mroIn K C (.type "object") = some true) : TyOf K H (.ref a) (.ref C)
/-- isinstance(x, c) for one class c, a built-in or an own one: kitOne's answer -/
theorem isinst_ok {x : V} {u t : Value} (I : Inv X pins σ H s) (rx : RelV x u) (ty : TyOf X.K H x t) (e : PySem.W.kitOne X.K t c = some b) (h : ∀ tk, Q (.bool b) { s with toks := tk }) :
    wpAny (model X.prog X.w) A (call (.builtin "isinstance") [u, c]) Q E s := by
  cases ty with
  | non => cases (show u = Value.none from rx); exact PySem.W.kia_one PySem.W.kitx_none I.kIn True.intro e (fun z => nomatch z) h
  | bl y => cases (show u = Value.bool y from rx); exact PySem.W.kia_one PySem.W.kitx_bool I.kIn True.intro e (fun z => nomatch z) h
  | int i => obtain ⟨t, q⟩ := (show ∃ t, u = Value.int i t from rx); cases q; exact PySem.W.kia_one PySem.W.kitx_int I.kIn True.intro e (fun z => nomatch z) h
  | str y => obtain ⟨t, q⟩ := (show ∃ t, u = Value.str y t from rx); cases q; exact PySem.W.kia_one PySem.W.kitx_str I.kIn True.intro e (fun z => nomatch z) h
  | flt y => obtain ⟨t, q⟩ := (show ∃ t, u = Value.float y t from rx); cases q; exact PySem.W.kia_one PySem.W.kitx_float I.kIn True.intro e (fun z => nomatch z) h
  | @lst a xs ea =>
    cases (show u = Value.ref a from rx)
    obtain ⟨_, _, n, _, h1⟩ := (show ObjOk X.prog X.w H s.heap a (.lst xs) from I.hok a _ ea)
    exact PySem.W.kia_one PySem.W.kitx_list I.kIn ⟨_, h1, rfl⟩ e (fun z => nomatch z) h
  | @frz a ob xs ea =>
    cases (show u = Value.ref a from rx)
    obtain ⟨_, _, _, n, _, h1⟩ := (show ObjOk X.prog X.w H s.heap a (.frz ob (.lst xs)) from I.hok a _ ea)
    exact PySem.W.kia_one PySem.W.kitx_list I.kIn ⟨_, h1, rfl⟩ e (fun z => nomatch z) h
  | @tup a xs ea =>
    cases (show u = Value.ref a from rx)
    obtain ⟨_, _, _, p⟩ := (show ObjOk X.prog X.w H s.heap a (.tup xs) from I.hok a _ ea)
    obtain ⟨o, h1, h2, _⟩ := p
    exact PySem.W.kia_one PySem.W.kitx_tuple I.kIn ⟨o, h1, h2⟩ e (fun z => nomatch z) h
  | @dK a kvs ea =>
    cases (show u = Value.ref a from rx)
    obtain ⟨_, _, vs, _, p⟩ := (show ObjOk X.prog X.w H s.heap a (.dK kvs) from I.hok a _ ea)
    obtain ⟨o, es, ep, h1, h2, _⟩ := p
    exact PySem.W.kia_one PySem.W.kitx_dict I.kIn ⟨o, h1, h2.1⟩ e (fun z => nomatch z) h
  | @dT a kvs ea =>
    cases (show u = Value.ref a from rx)
    obtain ⟨_, _, xs, _, o, es, ep, h1, h2, _⟩ := (show ObjOk X.prog X.w H s.heap a (.dT kvs) from I.hok a _ ea)
    exact PySem.W.kia_one PySem.W.kitx_dict I.kIn ⟨o, h1, h2.1⟩ e (fun z => nomatch z) h
  | @ins a C dx fs ea cl ha hn htk hm =>
    cases (show u = Value.ref a from rx)
    obtain ⟨mA, O, _⟩ := ins_get I.hok ea
    obtain ⟨od, J, _⟩ := O.look
    exact PySem.W.kia_one (PySem.W.kitx_own (cl.get _) cl.hd ha hn htk hm) I.kIn J e (fun z => nomatch z) h
end
end L2

namespace L2
open PySem PySem.Spec PyProof.Rows

/-! ### room -/
structure Room (k : Nat) (A : Around) : Prop where
  hd : A.handled = none
  dp : A.depth + 3 * k + 5 < recursionLimit
  un : A.units + 16 * k + 200 < cLine
theorem Room.mono {j k : Nat} {A : Around} (r : Room k A) (h : j ≤ k) : Room j A := ⟨r.hd, by have := r.dp; omega, by have := r.un; omega⟩
theorem Room.deeper {k : Nat} {A : Around} (r : Room (k + 1) A) (env : Env) : Room k (A.deeper env) :=
  ⟨r.hd, by have := r.dp; show A.depth + 1 + 3 * k + 5 < _; omega, by have := r.un; show A.units + 3 + 16 * k + 200 < _; omega⟩
theorem Room.in1 {k : Nat} {A : Around} (r : Room (k + 1) A) : Room k A.in1 :=
  ⟨r.hd, by have := r.dp; show A.depth + 3 * k + 5 < _; omega, by have := r.un; show A.units + 1 + 16 * k + 200 < _; omega⟩
theorem make_depth {A : Around} {C : Addr} {us : List Value} {kw : List (Str × Value)} : (A.under (.builtin "type.__call__" ⟨.ref C :: us, kw⟩)).depth = A.depth + 1 := by
  first | rfl | simp [Around.under, Code.weight, Code.isCreation, Code.isGuard, Code.isCaller, Code.frames, Code.isFrame, guardIds]
theorem make_units {A : Around} {C : Addr} {us : List Value} {kw : List (Str × Value)} : (A.under (.builtin "type.__call__" ⟨.ref C :: us, kw⟩)).units = A.units + 1 := by
  first | rfl | simp [Around.under, Code.cUnits, Code.frames, Code.isFrame]
theorem Room.make {k : Nat} {A : Around} (r : Room (k + 1) A) (C : Addr) (us : List Value) (kw : List (Str × Value)) : Room k (A.under (.builtin "type.__call__" ⟨.ref C :: us, kw⟩)) :=
  ⟨r.hd, by have := r.dp; rw [make_depth]; omega, by have := r.un; rw [make_units]; omega⟩
theorem Room.depth {k : Nat} {A : Around} (r : Room k A) : A.depth < recursionLimit := by have := r.dp; omega
theorem Room.units {k : Nat} {A : Around} (r : Room k A) : A.units + 64 < cLine := by have := r.un; omega
theorem Room.units0 {k : Nat} {A : Around} (r : Room k A) : A.units < cLine := by have := r.un; omega

/-! ### argument lists and displays -/
def tNil : TA := fun _ H Q => Q [] H
def tCons (ta : TE) (tr : TA) : TA := fun σ H Q => ta σ H fun x H1 => tr σ H1 fun xs H2 => Q (x :: xs) H2
section
variable {X : Cx} {e : Expr} {es : List Expr} {te : TE} {t : TA} {pos : Pos}
theorem pa_nil : PA X [] tNil := fun _ _ _ _ H Q I h => Calls.spliced_nil ⟨[], H, I, .nil, h⟩
theorem pa_cons (ha : PE X e te) (hr : PA X es t) (hs : starEach (e :: es) X.env = (false, eval e X.env) :: starEach es X.env := by rfl) : PA X (e :: es) (tCons te t) := by
  intro pos pins s σ H Q I h
  rw [hs]
  show wpAny _ _ (spliced ((false, eval e X.env) :: backTo pos (starEach es X.env))) _ _ s
  refine Calls.spliced_cons (thn (ha pins s σ H _ I h) fun u s1 ⟨x, H1, I1, r1, q1⟩ => ?_)
  exact thn (hr pos pins s1 σ H1 _ I1 q1) fun us s2 ⟨xs, H2, I2, r2, q2⟩ => ⟨x :: xs, H2, I2, .cons r1 r2, q2⟩

/-- a tuple, a list of written items -/
def tTup (t : TA) : TE := fun σ H Q => t σ H fun xs H1 => xs.length ≤ sizeLine ∧ ∀ p, H1 p = none → Q (.ref p) (upd H1 p (.tup xs))
def tLst (t : TA) : TE := fun σ H Q => t σ H fun xs H1 => xs.length ≤ sizeLine ∧ ∀ p, H1 p = none → Q (.ref p) (upd H1 p (.lst xs))
theorem pe_tup {x1} (h : PA X es t) : PE X (.Tuple es x1 pos) (tTup t) := by
  intro pins s σ H Q I hq
  refine wpAny_Tuple_spliced (thn (h pos pins s σ H _ I hq) fun us s1 ⟨xs, H1, I1, r, z, q⟩ => ⟨by rw [← r.length]; exact z, ?_⟩)
  have hf : H1 s1.heap.objs.size = none := I1.hok.fresh (Nat.le_refl _)
  refine ⟨.ref s1.heap.objs.size, upd H1 s1.heap.objs.size (.tup xs), I1.laid (t' := s1.toks) (fun b u e => Heap.get?_push_of_some _ e) (Nat.le_refl _) ?_, rfl, q _ hf⟩
  exact ⟨z, us, r, ⟨_, Heap.get?_push_size _ rfl, rfl, _, rfl⟩⟩
theorem pe_lst (h : PA X es t) : PE X (.List es pos) (tLst t) := by
  intro pins s σ H Q I hq
  refine wpAny_List_spliced (thn (h pos pins s σ H _ I hq) fun us s1 ⟨xs, H1, I1, r, z, q⟩ => ⟨by rw [← r.length]; exact z, ?_⟩)
  have hf : H1 s1.heap.objs.size = none := I1.hok.fresh (Nat.le_refl _)
  refine ⟨.ref s1.heap.objs.size, upd H1 s1.heap.objs.size (.lst xs), I1.laid (t' := s1.toks) (fun b u e => Heap.get?_push_of_some _ e) (Nat.le_refl _) ?_, rfl, q _ hf⟩
  exact ⟨z, us, 0, r, Heap.get?_push_size _ rfl⟩
end

/-! ### what a def promises -/
/-- a def's promise: the bound arguments in the parameters' order, the heap, the wanted end, the wanted exception -/
abbrev Sp := List V → Hp → VK → XK → Prop
/-- how an exception lies behind a call (file 08 gives it): the callers' frames, abstract heap and state ahead of the call, the wish, the exception, the state -/
abbrev CXT := List Env → Hp → Shared → XK → Value → Shared → Prop

/-- the state at a call -/
structure Env0 (P : Program) (w : World) (K : PySem.W.Frag) (mg : Str → Option Value) (base : Heap) (A : Around) (outer : List Env) (s : Shared) (H : Hp) : Prop where
  frames : A.frames = some outer
  mod : Mod K mg base
  bs : ∀ b o, base.get? b = some o → s.heap.get? b = some o ∧ H b = none
  bsz : base.objs.size ≤ s.heap.objs.size
  funs : s.heap.FunFrames base outer
  frf : ∀ b ∈ frs outer, H b = none
  hok : HOk P w H s.heap
  bare : AllBare s.gens
/-- a call's end -/
def CE (outer : List Env) (P : Program) (w : World) (H : Hp) (s : Shared) (Q : VK) (u : Value) (s' : Shared) : Prop :=
  ∃ v H', s'.os = s.os ∧ AllBare s'.gens ∧ Un (frs outer) [] H H' s.heap s'.heap ∧ HOk P w H' s'.heap ∧ RelV v u ∧ Q v H'
def CR (CX : CXT) (outer : List Env) (P : Program) (w : World) (H : Hp) (s : Shared) (Q : VK) (E : XK) (r : Result) (s' : Shared) : Prop :=
  match r with
  | .ok (.ret u) => CE outer P w H s Q u s'
  | .ok _ => False
  | .error e => CX outer H s E e s'
structure FnOk (P : Program) (w : World) (K : PySem.W.Frag) (mg : Str → Option Value) (base : Heap) (CX : CXT) (k : Nat) (f : Addr) (fd : FuncData) (ps : List Str) (sp : Sp) : Prop where
  len : ∀ vs H Q E, sp vs H Q E → vs.length = ps.length
  run : ∀ (A : Around) (outer : List Env) (s : Shared) (H : Hp) (args : Args) (us : List Value) (vs : List V) (Q : VK) (E : XK), Room k A → Env0 P w K mg base A outer s H → BindsTo s fd args (ps.zip us) → Vals vs us → sp vs H Q E →
    codeAny (model P w) A (.call (.ref f) args) (CR CX outer P w H s Q E) s
theorem FnOk.mono {P : Program} {w : World} {K : PySem.W.Frag} {mg : Str → Option Value} {base : Heap} {CX : CXT} {j k : Nat} {f : Addr} {fd : FuncData} {ps : List Str} {sp : Sp} (F : FnOk P w K mg base CX j f fd ps sp) (h : j ≤ k) :
    FnOk P w K mg base CX k f fd ps sp := ⟨F.len, fun A outer s H args us vs Q E hr => F.run A outer s H args us vs Q E (hr.mono h)⟩
/-- a weaker promise -/
theorem FnOk.imp {P : Program} {w : World} {K : PySem.W.Frag} {mg : Str → Option Value} {base : Heap} {CX : CXT} {k : Nat} {f : Addr} {fd : FuncData} {ps : List Str} {sp sp' : Sp} (F : FnOk P w K mg base CX k f fd ps sp)
    (h : ∀ vs H Q E, sp' vs H Q E → sp vs H Q E) : FnOk P w K mg base CX k f fd ps sp' :=
  ⟨fun vs H Q E q => F.len vs H Q E (h _ _ _ _ q), fun A outer s H args us vs Q E hr he hb hv hs => F.run A outer s H args us vs Q E hr he hb hv (h _ _ _ _ hs)⟩

theorem Env0.make {P : Program} {w : World} {K : PySem.W.Frag} {mg : Str → Option Value} {base : Heap} {A : Around} {outer : List Env} {s : Shared} {H : Hp} (e : Env0 P w K mg base A outer s H) (C : Addr) (us : List Value) (kw : List (Str × Value)) :
    Env0 P w K mg base (A.under (.builtin "type.__call__" ⟨.ref C :: us, kw⟩)) outer s H := ⟨by first | exact e.frames | (simpa [Around.under, Code.envs, Code.isFrame, pushEnvs] using e.frames), e.mod, e.bs, e.bsz, e.funs, e.frf, e.hok, e.bare⟩
theorem Env0.in1 {P : Program} {w : World} {K : PySem.W.Frag} {mg : Str → Option Value} {base : Heap} {A : Around} {outer : List Env} {s : Shared} {H : Hp} (e : Env0 P w K mg base A outer s H) :
    Env0 P w K mg base A.in1 outer s H := ⟨e.frames, e.mod, e.bs, e.bsz, e.funs, e.frf, e.hok, e.bare⟩

section
variable {X : Cx} {pins : List (Addr × Obj)} {σ : St} {H : Hp} {s s' : Shared}
/-- from a body: what a callee wants -/
theorem Inv.env0 (I : Inv X pins σ H s) : Env0 X.prog X.w X.K X.mg X.base X.A X.stack s H :=
  ⟨I.ok.frames, I.ok.mod, I.bs, Nat.le_trans I.ok.bsz I.sz, I.stack, I.stkFree, I.hok, I.bare⟩
/-- behind a call -/
theorem Inv.after {Q : VK} {u : Value} (I : Inv X pins σ H s) (h : CE X.stack X.prog X.w H s Q u s') : EP X pins σ Q u s' := by
  obtain ⟨v, H', os, bare, un, hok, r, q⟩ := h
  obtain ⟨hh, g, d, t, os'⟩ := s'
  obtain rfl : os' = s.os := os
  exact ⟨v, H', I.call (h' := hh) (g' := g) (d' := d) (t' := t) (ch := []) un hok bare (fun b z => absurd z (by simp)), r, q⟩
end

/-! ### calls -/
/-- f(..): the written arguments, then the defaults dvs; E: what is wanted of an exception -/
def tCall (sp : Sp) (dvs : List V) (E : XK) (t : TA) : TE := fun σ H Q => t σ H fun vs H1 => sp (vs ++ dvs) H1 Q E
/-- o.m(..) of an instance of the class at C -/
def tMeth (C : Addr) (m : Str) (sp : Sp) (dvs : List V) (E : XK) (ta : TE) (t : TA) : TE := fun σ H Q => ta σ H fun x H1 => ∃ a dx fs, x = .ref a ∧ H1 a = some (.ins C dx fs) ∧ fs.lookup m = none ∧
  t σ H1 fun vs H2 => sp (x :: (vs ++ dvs)) H2 Q E
/-- C(..): a new instance and its dict, then __init__ -/
def tMake (C : Addr) (sp : Sp) (dvs : List V) (E : XK) (t : TA) : TE := fun σ H Q => t σ H fun vs H1 => ∀ x dx, H1 x = none → H1 dx = none → dx ≠ x →
  sp (.ref x :: (vs ++ dvs)) (upd (upd H1 dx (.own x)) x (.ins C dx [])) (fun v H2 => v = .non ∧ Q (.ref x) H2) E

/-- how the parameters are bound: us the positional arguments, kw the keywords' values by name, ds the defaults that fill up -/
def Binds (K : PySem.W.Frag) (fd : FuncData) (ps : List Str) (ds : List Value) : Prop :=
  ∀ (s : Shared) (us : List Value), K.In s.heap → (us ++ ds).length = ps.length → BindsTo s fd ⟨us, []⟩ (ps.zip (us ++ ds))
/-- every parameter is given -/
theorem Binds.all {K : PySem.W.Frag} {fd : FuncData} {ps : List Str} (h : ∀ us : List Value, us.length = ps.length → bindArgs fd ⟨us, []⟩ = pure (ps.zip us)) : Binds K fd ps [] := fun s us _ hl => by
  rw [List.append_nil] at hl ⊢
  exact .of_eq (h us hl)

/-- an exception of a callee reaches what this body wants of exceptions -/
def Passes (CX : CXT) (X : Cx) (E : XK) : Prop := ∀ (pins : List (Addr × Obj)) (σ : St) (H : Hp) (s : Shared) (e : Value) (s' : Shared), Inv X pins σ H s → CX X.stack H s E e s' → X.xe e s'

section
variable {X : Cx} {CX : CXT} {k : Nat} {f C : Addr} {fd : FuncData} {ps : List Str} {sp : Sp} {dvs : List V} {ds : List Value} {E : XK} {x m : Str} {p pos apos : Pos} {e o : Expr} {es : List Expr} {ta : TE} {t : TA}

/-- the callee runs -/
theorem run_fn {pins : List (Addr × Obj)} {σ : St} {H : Hp} {s : Shared} {Q : VK} {us : List Value} {vs : List V} (F : FnOk X.prog X.w X.K X.mg X.base CX k f fd ps sp) (hr : Room k X.A) (hb : Binds X.K fd ps ds) (hd : Vals dvs ds) (hx : Passes CX X E)
    (I : Inv X pins σ H s) (r : Vals vs us) (h : sp (vs ++ dvs) H Q E) : wpAny (model X.prog X.w) X.A (call (.ref f) us) (EP X pins σ Q) X.xe s := by
  have r2 : Vals (vs ++ dvs) (us ++ ds) := r.append hd
  have hl : (us ++ ds).length = ps.length := by rw [← r2.length]; exact F.len _ _ _ _ h
  refine wpAny_call (codeAny_mono (F.run X.A X.stack s H ⟨us, []⟩ (us ++ ds) (vs ++ dvs) Q E hr I.env0 (hb s us I.kIn hl) r2 h) fun r s' hq => ?_)
  cases r with
  | error e => exact hx pins σ H s e s' I hq
  | ok fl =>
    cases fl with
    | ret u => exact I.after hq
    | next => exact False.elim hq
    | brk => exact False.elim hq
    | cont => exact False.elim hq

theorem pe_call (F : FnOk X.prog X.w X.K X.mg X.base CX k f fd ps sp) (hr : Room k X.A) (hg : Gl X x) (hm : X.mg x = some (.ref f)) (hk : PySem.W.keepIn X.K (.ref f) = true) (hb : Binds X.K fd ps ds) (hd : Vals dvs ds) (hx : Passes CX X E)
    (ha : PA X (e :: es) t) (hdb : (x == ("__debug__" : Str)) = false := by decide) (he : starEach (e :: es) X.env = (false, eval e X.env) :: starEach es X.env := by rfl) (hpl : (backTo pos (starEach es X.env)).any (·.1) = false := by rfl) :
    PE X (.Call (.Name x p) (e :: es) [] pos) (tCall sp dvs E t) := by
  intro pins s σ H Q I h
  refine wpAny_Call_Name_kw (ld_glob I hg hm ?_ hdb)
  refine PySem.W.callWith_K (h₀ := X.base) I.ok.mod.kin hk (thn (ha pos pins s σ H _ I h) fun us s1 ⟨vs, H1, I1, r, q⟩ => ⟨I1.kIn, ?_⟩) he hpl
  exact run_fn F hr hb hd hx I1 r q
theorem pe_call0 (F : FnOk X.prog X.w X.K X.mg X.base CX k f fd ps sp) (hr : Room k X.A) (hg : Gl X x) (hm : X.mg x = some (.ref f)) (hk : PySem.W.keepIn X.K (.ref f) = true) (hb : Binds X.K fd ps ds) (hd : Vals dvs ds) (hx : Passes CX X E)
    (hdb : (x == ("__debug__" : Str)) = false := by decide) : PE X (.Call (.Name x p) [] [] pos) (tCall sp dvs E tNil) := by
  intro pins s σ H Q I h
  refine wpAny_Call_Name_kw (ld_glob I hg hm ?_ hdb)
  exact PySem.W.callWith_K0 I.kIn hk (run_fn (us := []) F hr hb hd hx I .nil h)

/-- o.m(e, ..) -/
theorem pe_meth {pl : Sem Bool} (he : PE X o ta) (c : Cls X.K C) (hm : Meth X.K C m f) (F : FnOk X.prog X.w X.K X.mg X.base CX k f fd ps sp) (hr : Room k X.A) (hb : Binds X.K fd ps ds) (hd : Vals dvs ds) (hx : Passes CX X E) (ha : PA X (e :: es) t)
    (hst : starEach (e :: es) X.env = (false, eval e X.env) :: starEach es X.env := by rfl) (hpl : (backTo pos (starEach es X.env)).any (·.1) = false := by rfl)
    (ht : eval (.Call (.Attribute o m apos) (e :: es) [] pos) X.env = (do
      let ov ← eval o X.env
      standAt apos.atName
      let (f, first) ← holding [ov] (getMethod ov m pl)
      callWith pos f first (backTo pos (starEach (e :: es) X.env)) (backToKw pos (keywordEach [] X.env))) := by rfl) :
    PE X (.Call (.Attribute o m apos) (e :: es) [] pos) (tMeth C m sp dvs E ta t) := by
  intro pins s σ H Q I h
  refine PySem.W.methodCall_KW (pl := pl) (thn (he pins s σ H _ I h) fun u s1 ⟨x, H1, I1, rx, a, dx, fs, ex, ea, l, q⟩ => ?_) ht
  subst ex
  obtain rfl : u = Value.ref a := rx
  refine getmeth_ok I1 ea c hm l ?_
  refine PySem.W.callWith_K (first := [.ref a]) (h₀ := X.base) I.ok.mod.kin hm.kp (thn (ha pos pins s1 σ H1 _ I1 q) fun us s2 ⟨vs, H2, I2, r, q2⟩ => ⟨I2.kIn, ?_⟩) hst hpl
  exact run_fn (us := .ref a :: us) (vs := .ref a :: vs) F hr hb hd hx I2 (.cons rfl r) q2
/-- o.m() -/
theorem pe_meth0 {pl : Sem Bool} (he : PE X o ta) (c : Cls X.K C) (hm : Meth X.K C m f) (F : FnOk X.prog X.w X.K X.mg X.base CX k f fd ps sp) (hr : Room k X.A) (hb : Binds X.K fd ps ds) (hd : Vals dvs ds) (hx : Passes CX X E)
    (ht : eval (.Call (.Attribute o m apos) [] [] pos) X.env = (do
      let ov ← eval o X.env
      standAt apos.atName
      let (f, first) ← holding [ov] (getMethod ov m pl)
      callWith pos f first (backTo pos (starEach [] X.env)) (backToKw pos (keywordEach [] X.env))) := by rfl) :
    PE X (.Call (.Attribute o m apos) [] [] pos) (tMeth C m sp dvs E ta tNil) := by
  intro pins s σ H Q I h
  refine PySem.W.methodCall_KW (pl := pl) (thn (he pins s σ H _ I h) fun u s1 ⟨x, H1, I1, rx, a, dx, fs, ex, ea, l, q⟩ => ?_) ht
  subst ex
  obtain rfl : u = Value.ref a := rx
  refine getmeth_ok I1 ea c hm l ?_
  exact PySem.W.callWith_K0 (first := [.ref a]) I1.kIn hm.kp (run_fn (us := [.ref a]) (vs := [.ref a]) F hr hb hd hx I1 (.cons rfl .nil) q)

/-- what a class must have to be made -/
structure Mk (K : PySem.W.Frag) (C f : Addr) : Prop where
  makes : PySem.W.makesIn K C = true
  init : PySem.W.findIn K (.ref C) "__init__" = some (some (.ref f))
  fn : PySem.W.isFn K (.ref f) = true
  kp : PySem.W.keepIn K (.ref C) = true

theorem run_make {pins : List (Addr × Obj)} {σ : St} {H : Hp} {s : Shared} {Q : VK} {us : List Value} {vs : List V} (M : Mk X.K C f) (F : FnOk X.prog X.w X.K X.mg X.base CX k f fd ps sp) (hr : Room (k + 1) X.A) (hb : Binds X.K fd ps ds) (hd : Vals dvs ds)
    (hx : Passes CX X E) (I : Inv X pins σ H s) (r : Vals vs us)
    (h : ∀ x dx, H x = none → H dx = none → dx ≠ x → sp (.ref x :: (vs ++ dvs)) (upd (upd H dx (.own x)) x (.ins C dx [])) (fun v H2 => v = .non ∧ Q (.ref x) H2) E) :
    wpAny (model X.prog X.w) X.A (call (.ref C) us) (EP X pins σ Q) X.xe s := by
  have hq := h (s.heap.objs.size + 1) s.heap.objs.size (I.hok.fresh (Nat.le_succ _)) (I.hok.fresh (Nat.le_refl _)) (Nat.ne_of_lt (Nat.lt_succ_self _))
  have I2 := Inv.made (C := C) I
  have r2 : Vals (V.ref (s.heap.objs.size + 1) :: (vs ++ dvs)) (Value.ref (s.heap.objs.size + 1) :: (us ++ ds)) := .cons rfl (r.append hd)
  have hl : (Value.ref (s.heap.objs.size + 1) :: us ++ ds).length = ps.length := by
    have e := r2.length
    rw [F.len _ _ _ _ hq] at e
    exact e.symm
  refine wpAny_call (make_map (f := f) I.kIn M.makes M.init (beq_iff_eq.mp M.fn) (codeAny_mono (F.run _ X.stack _ _ ⟨Value.ref (s.heap.objs.size + 1) :: us, []⟩ (Value.ref (s.heap.objs.size + 1) :: (us ++ ds)) _ _ E (hr.make C us [])
    (I2.env0.make C us []) (hb _ (Value.ref (s.heap.objs.size + 1) :: us) I2.kIn hl) r2 hq) fun r s' hq' => ?_))
  cases r with
  | error e => exact hx pins σ _ _ e s' I2 hq'
  | ok fl =>
    cases fl with
    | ret u =>
      obtain ⟨v, H', I3, rv, ev, q3⟩ := I2.after hq'
      subst ev
      exact ⟨rv, ⟨V.ref (s.heap.objs.size + 1), H', I3, rfl, q3⟩⟩
    | next => exact False.elim hq'
    | brk => exact False.elim hq'
    | cont => exact False.elim hq'
theorem pe_make (M : Mk X.K C f) (F : FnOk X.prog X.w X.K X.mg X.base CX k f fd ps sp) (hr : Room (k + 1) X.A) (hg : Gl X x) (hm : X.mg x = some (.ref C)) (hb : Binds X.K fd ps ds) (hd : Vals dvs ds) (hx : Passes CX X E)
    (ha : PA X (e :: es) t) (hdb : (x == ("__debug__" : Str)) = false := by decide) (he : starEach (e :: es) X.env = (false, eval e X.env) :: starEach es X.env := by rfl) (hpl : (backTo pos (starEach es X.env)).any (·.1) = false := by rfl) :
    PE X (.Call (.Name x p) (e :: es) [] pos) (tMake C sp dvs E t) := by
  intro pins s σ H Q I h
  refine wpAny_Call_Name_kw (ld_glob I hg hm ?_ hdb)
  refine PySem.W.callWith_K (h₀ := X.base) I.ok.mod.kin M.kp (thn (ha pos pins s σ H _ I h) fun us s1 ⟨vs, H1, I1, r, q⟩ => ⟨I1.kIn, ?_⟩) he hpl
  exact run_make M F hr hb hd hx I1 r q
theorem pe_make0 (M : Mk X.K C f) (F : FnOk X.prog X.w X.K X.mg X.base CX k f fd ps sp) (hr : Room (k + 1) X.A) (hg : Gl X x) (hm : X.mg x = some (.ref C)) (hb : Binds X.K fd ps ds) (hd : Vals dvs ds) (hx : Passes CX X E)
    (hdb : (x == ("__debug__" : Str)) = false := by decide) : PE X (.Call (.Name x p) [] [] pos) (tMake C sp dvs E tNil) := by
  intro pins s σ H Q I h
  refine wpAny_Call_Name_kw (ld_glob I hg hm ?_ hdb)
  exact PySem.W.callWith_K0 I.kIn M.kp (run_make (us := []) M F hr hb hd hx I .nil h)
end

/-! ### keywords -/
/-- the values of the keywords, from the left -/
def PK (X : Cx) (kws : List Keyword) (t : TA) : Prop :=
  ∀ (pos : Pos) (pins : List (Addr × Obj)) (s : Shared) (σ : St) (H : Hp) (Q : List V → Hp → Prop), Inv X pins σ H s → t σ H Q → wpAny (model X.prog X.w) X.A (evalAll ((backToKw pos (keywordEach kws X.env)).map (·.2))) (AP X pins σ Q) X.xe s
section
variable {X : Cx} {CX : CXT} {k : Nat} {f C : Addr} {fd : FuncData} {ps ks : List Str} {sp : Sp} {E : XK} {x m : Str} {p pos apos kpos : Pos} {e o : Expr} {es : List Expr} {kws : List Keyword} {te ta : TE} {t tk : TA} {nm : Option Str}
theorem pk_nil : PK X [] tNil := fun _ _ _ _ H Q I h => wpAny_evalAll_nil ⟨[], H, I, .nil, h⟩
theorem pk_cons (ha : PE X e te) (hr : PK X kws t) : PK X (⟨nm, e, kpos⟩ :: kws) (tCons te t) := by
  intro pos pins s σ H Q I h
  show wpAny _ _ (evalAll ((do let v ← eval e X.env; standAt pos; pure v) :: (backToKw pos (keywordEach kws X.env)).map (·.2))) _ _ s
  refine wpAny_evalAll_cons (wpAny_bind (thn (ha pins s σ H _ I h) fun u s1 ⟨x, H1, I1, r1, q1⟩ => wpAny_bind (wpAny_standAt (wpAny_pure ?_))))
  exact thn (hr pos pins s1 σ H1 _ I1 q1) fun us s2 ⟨xs, H2, I2, r2, q2⟩ => ⟨x :: xs, H2, I2, .cons r1 r2, q2⟩

/-- how a call with keywords binds: g puts the positional values us and the keywords' values ws (names ks) in the parameters' order, defaults among them -/
structure KBinds (K : PySem.W.Frag) (fd : FuncData) (ps ks : List Str) (g : List Value → List Value → List Value) (gV : List V → List V → List V) : Prop where
  to : ∀ (s : Shared) (us ws : List Value), K.In s.heap → (g us ws).length = ps.length → BindsTo s fd ⟨us, ks.zip ws⟩ (ps.zip (g us ws))
  rel : ∀ {vs : List V} {us : List Value} {zs : List V} {ws : List Value}, Vals vs us → Vals zs ws → Vals (gV vs zs) (g us ws)
def tCallK (sp : Sp) (gV : List V → List V → List V) (E : XK) (t tk : TA) : TE := fun σ H Q => t σ H fun vs H1 => tk σ H1 fun zs H2 => sp (gV vs zs) H2 Q E
variable {g : List Value → List Value → List Value} {gV : List V → List V → List V}
theorem run_fnk {pins : List (Addr × Obj)} {σ : St} {H : Hp} {s : Shared} {Q : VK} {us ws : List Value} {vs zs : List V} (F : FnOk X.prog X.w X.K X.mg X.base CX k f fd ps sp) (hr : Room k X.A) (hb : KBinds X.K fd ps ks g gV) (hx : Passes CX X E)
    (I : Inv X pins σ H s) (r : Vals vs us) (rz : Vals zs ws) (h : sp (gV vs zs) H Q E) : wpAny (model X.prog X.w) X.A (call (.ref f) us (ks.zip ws)) (EP X pins σ Q) X.xe s := by
  have r2 := hb.rel r rz
  have hl : (g us ws).length = ps.length := by rw [← r2.length]; exact F.len _ _ _ _ h
  refine wpAny_call (codeAny_mono (F.run X.A X.stack s H ⟨us, ks.zip ws⟩ (g us ws) (gV vs zs) Q E hr I.env0 (hb.to s us ws I.kIn hl) r2 h) fun r s' hq => ?_)
  cases r with
  | error e => exact hx pins σ H s e s' I hq
  | ok fl =>
    cases fl with
    | ret u => exact I.after hq
    | next => exact False.elim hq
    | brk => exact False.elim hq
    | cont => exact False.elim hq
/-- f(e, .., k = v, ..) -/
theorem pe_callK (F : FnOk X.prog X.w X.K X.mg X.base CX k f fd ps sp) (hr : Room k X.A) (hg : Gl X x) (hm : X.mg x = some (.ref f)) (hk : PySem.W.keepIn X.K (.ref f) = true) (hb : KBinds X.K fd ps ks g gV) (hx : Passes CX X E)
    (ha : PA X (e :: es) t) (hkw : PK X kws tk) (hall : (backToKw pos (keywordEach kws X.env)).all (·.1.isSome) = true := by rfl) (hks : (backToKw pos (keywordEach kws X.env)).filterMap (·.1) = ks := by rfl)
    (hdb : (x == ("__debug__" : Str)) = false := by decide) (he : starEach (e :: es) X.env = (false, eval e X.env) :: starEach es X.env := by rfl)
    (hpl : ((backTo pos (starEach (e :: es) X.env)).any (·.1) || (backToKw pos (keywordEach kws X.env)).any (·.1.isNone)) = false := by rfl) :
    PE X (.Call (.Name x p) (e :: es) kws pos) (tCallK sp gV E t tk) := by
  intro pins s σ H Q I h
  refine wpAny_Call_Name_kw (ld_glob I hg hm ?_ hdb)
  refine PySem.W.callWith_KW (h₀ := X.base) I.ok.mod.kin hk hall (thn (ha pos pins s σ H _ I h) fun us s1 ⟨vs, H1, I1, r, q⟩ => ?_) hpl he
  refine thn (hkw pos pins s1 σ H1 _ I1 q) fun ws s2 ⟨zs, H2, I2, rz, q2⟩ => ⟨I2.kIn, ?_⟩
  rw [hks]
  exact run_fnk F hr hb hx I2 r rz q2
end

/-! ### a def's body keeps its promise -/
/-- names: the parameters first -/
structure FnScope (N P : List Str) (sc : Scope) : Prop where
  kind : sc.kind = .function
  co : sc.isCoroutine = false
  gen : sc.isGenerator = false
  nd : N.Nodup
  pre : N.take P.length = P
  par : ∀ x ∈ P, sc.names.lookup x = some .local ∨ sc.names.lookup x = some .cell
  nofree : ∀ y ∈ sc.names, y.2 ≠ .free

theorem bindL_out {kindOf : Str → Option NameKind} {x : Str} : ∀ {binds : List (Str × Value)} {m : Str → Option Value}, (∀ v, (x, v) ∉ binds) → bindL kindOf binds m x = m x
  | [], _, _ => rfl
  | (n, v) :: r, m, h => by
    unfold bindL
    rw [bindL_out fun w hw => h w (List.mem_cons_of_mem _ hw)]
    split
    · have : x ≠ n := by rintro rfl; exact h v List.mem_cons_self
      simp [this]
    · rfl
theorem bindC_out {kindOf : Str → Option NameKind} {x : Str} : ∀ {binds : List (Str × Value)} {m : Str → Option Value}, (∀ v, (x, v) ∉ binds) → bindC kindOf binds m x = m x
  | [], _, _ => rfl
  | (n, v) :: r, m, h => by
    unfold bindC
    rw [bindC_out fun w hw => h w (List.mem_cons_of_mem _ hw)]
    split
    · rfl
    · have : x ≠ n := by rintro rfl; exact h v List.mem_cons_self
      simp [this]
theorem bindL_get {kindOf : Str → Option NameKind} {x : Str} {v : Value} : ∀ {P : List Str} {vs : List Value} {i : Nat} {m : Str → Option Value}, P.Nodup → P[i]? = some x → vs[i]? = some v → kindOf x = some .local →
    bindL kindOf (P.zip vs) m x = some v
  | [], _, _, _, _, h, _, _ => by simp at h
  | _ :: _, [], _, _, _, _, h, _ => by simp at h
  | p :: P, w :: vs, 0, m, nd, h1, h2, hk => by
    simp at h1 h2; subst h1; subst h2
    show bindL kindOf ((p, w) :: P.zip vs) m p = _
    unfold bindL
    rw [bindL_out fun v hv => (List.nodup_cons.mp nd).1 (List.of_mem_zip hv).1, if_pos hk]
    simp
  | p :: P, w :: vs, i + 1, m, nd, h1, h2, hk => by
    show bindL kindOf ((p, w) :: P.zip vs) m x = _
    unfold bindL
    exact bindL_get (i := i) (List.nodup_cons.mp nd).2 (by simpa using h1) (by simpa using h2) hk
theorem bindC_get {kindOf : Str → Option NameKind} {x : Str} {v : Value} : ∀ {P : List Str} {vs : List Value} {i : Nat} {m : Str → Option Value}, P.Nodup → P[i]? = some x → vs[i]? = some v → kindOf x ≠ some .local →
    bindC kindOf (P.zip vs) m x = some v
  | [], _, _, _, _, h, _, _ => by simp at h
  | _ :: _, [], _, _, _, _, h, _ => by simp at h
  | p :: P, w :: vs, 0, m, nd, h1, h2, hk => by
    simp at h1 h2; subst h1; subst h2
    show bindC kindOf ((p, w) :: P.zip vs) m p = _
    unfold bindC
    rw [bindC_out fun v hv => (List.nodup_cons.mp nd).1 (List.of_mem_zip hv).1, if_neg hk]
    simp
  | p :: P, w :: vs, i + 1, m, nd, h1, h2, hk => by
    show bindC kindOf ((p, w) :: P.zip vs) m x = _
    unfold bindC
    exact bindC_get (i := i) (List.nodup_cons.mp nd).2 (by simpa using h1) (by simpa using h2) hk

/-- the names' values at the entry -/
def start (N : List Str) (vs : List V) : St := vs.map some ++ List.replicate (N.length - vs.length) none

/-- the context of a def's body, at its entry; an exception leaves the frame, then lies as CX says -/
def cxOf (CX : CXT) (P : Program) (w : World) (K : PySem.W.Frag) (mg : Str → Option Value) (base : Heap) (N : List Str) (qual : Str) (scope : Scope) (f : Addr) (cd : Value) (A : Around) (outer : List Env) (s : Shared) (H : Hp) (E : XK) : Cx where
  prog := P
  w := w
  K := K
  mg := mg
  base := base
  A := A.deeper (envOfC qual scope s.heap.objs.size f cd)
  N := N
  s₀ := s
  H₀ := H
  env := envOfC qual scope s.heap.objs.size f cd
  outer := outer
  stack := envOfC qual scope s.heap.objs.size f cd :: outer
  ex := []
  calm := true
  fn := fun _ => true
  pn := []
  xe := fun e s' => wpAny (model P w) (A.deeper (envOfC qual scope s.heap.objs.size f cd)) (leaving (envOfC qual scope s.heap.objs.size f cd) e) (fun _ s'' => CX outer H s E e s'') (fun e' s'' => CX outer H s E e' s'') s'

theorem cell_has {sc : Scope} {n : Nat} {x : Str} (h : sc.names.lookup x = some .cell) : ∃ c, (cellsFrom n sc.names []).lookup x = some c := by
  have q := PySem.W.cellsFrom_some sc.names n [] (.inl h)
  exact Option.isSome_iff_exists.mp q

theorem inv_start {CX : CXT} {P : Program} {w : World} {K : PySem.W.Frag} {mg : Str → Option Value} {base : Heap} {N ps : List Str} {qual : Str} {scope : Scope} {f : Addr} {cd : Value} {A : Around} {outer : List Env} {s s1 : Shared} {H : Hp} {E : XK} {us : List Value} {vs : List V}
    (S : FnScope N ps scope) (hd : A.handled = none) (e0 : Env0 P w K mg base A outer s H) (hl : vs.length = ps.length) (r : Vals vs us)
    (x : InCallC s s.heap.objs.size (bindL (envOfC qual scope s.heap.objs.size f cd).kindOf (ps.zip us) fun _ => none) (cellsFrom (s.heap.objs.size + 1) scope.names []) (bindC (envOfC qual scope s.heap.objs.size f cd).kindOf (ps.zip us) fun _ => none) s1) :
    Inv (cxOf CX P w K mg base N qual scope f cd A outer s H E) [] (start N vs) H s1 := by
  have hpl : ps.length ≤ N.length := by have := congrArg List.length S.pre; rw [List.length_take] at this; omega
  obtain ⟨h1, tk, rfl, hk⟩ := x.done
  have noA : ∀ b : Addr, b ∉ (cxOf CX P w K mg base N qual scope f cd A outer s H E).ex := fun b z => absurd (show b ∈ ([] : List Addr) from z) (by simp)
  refine ⟨⟨e0.mod, S.kind, rfl, rfl, Nat.le_refl _, fun y z c h1 h2 => ?_, fun y hy => ?_, fun y c _ h => ?_, fun _ => hd, Around.frames_deeper e0.frames, .inr ⟨rfl, rfl⟩, fun b z => absurd z (noA b), e0.bs, e0.bsz, fun b _ _ => noA b, fun b z => absurd z (noA b), e0.funs, e0.frf⟩,
    rfl, e0.bare, Un.kept hk, ⟨_, x.toInCall.ns, fun i y v h1 h2 h3 => ?_⟩, fun y c h => ⟨_, x.cell y c h⟩, e0.hok.fresh (Nat.le_refl _), fun y c h => ?_, fun p hp => absurd (show p ∈ ([] : List (Addr × Obj)) from hp) (by simp), e0.hok.kept hk, ?_⟩
  · exact name_of_addr x.apart (PySem.mem_of_lookup h1) (PySem.mem_of_lookup h2)
  · have hy : scope.names.lookup y = some .cell ∨ scope.names.lookup y = some .free := hy
    rcases hy with hy | hy
    · exact cell_has hy
    · exact absurd rfl (S.nofree _ (PySem.mem_of_lookup hy))
  · exact Nat.le_of_lt (x.above y c (PySem.mem_of_lookup h))
  · have hi : i < vs.length := by
      unfold start at h2
      by_cases hi : i < vs.length
      · exact hi
      · rw [List.getElem?_append_right (by simpa using hi)] at h2
        rw [List.getElem?_replicate] at h2
        split at h2 <;> cases h2
    have ha : vs[i]? = some v := by
      unfold start at h2
      rw [List.getElem?_append_left (by simpa using hi), List.getElem?_map] at h2
      cases e : vs[i]? with
      | none => rw [e] at h2; cases h2
      | some a => rw [e] at h2; cases h2; rfl
    obtain ⟨u, hu, rv⟩ := r.get ha
    have hp : ps[i]? = some y := by
      rw [← S.pre, List.getElem?_take_of_lt (by omega)]; exact h1
    have ndP : ps.Nodup := by rw [← S.pre]; exact S.nd.sublist (List.take_sublist _ _)
    refine ⟨u, rv, ?_⟩
    rcases S.par y (List.mem_of_getElem? hp) with k | k
    · exact .inl ⟨k, bindL_get ndP hp hu k⟩
    · obtain ⟨c, e⟩ := cell_has (n := s.heap.objs.size + 1) k
      refine .inr ⟨.inl k, c, e, ?_⟩
      have q := x.cell y c e
      rw [bindC_get ndP hp hu (by show scope.names.lookup y ≠ _; rw [k]; decide)] at q
      exact q
  · exact e0.hok.fresh (Nat.le_of_lt (x.above y c (PySem.mem_of_lookup h)))
  · unfold start
    show _ = N.length
    rw [List.length_append, List.length_map, List.length_replicate]
    omega

/-- THE RULE: a def (or a method) of the text, by its body. The body's reading t is chosen for each entry; it is run at the parameters' values -/
theorem fn_of {CX : CXT} {P : Program} {w : World} {K : PySem.W.Frag} {mg : Str → Option Value} {base : Heap} {k : Nat} {f : Addr} {name qual : Str} {params : Arguments} {body : List Stmt} {scope : Scope} {dV kV doc pm cdv ct oc : Value} {an od : Option Addr}
    {osl : Array (Option Value)} {N ps : List Str} {sp : Sp} (lk : K.lookup f = some ⟨oc, od, .func (PySem.W.fnOf name qual params body scope dV kV doc pm an cdv ct), osl⟩) (hcd : PySem.W.codeIn K cdv qual = true) (S : FnScope N ps scope)
    (len : ∀ vs H Q E, sp vs H Q E → vs.length = ps.length)
    (hbody : ∀ (A : Around) (outer : List Env) (s : Shared) (H : Hp) (vs : List V) (Q : VK) (E : XK), Room k (A.deeper (envOfC qual scope s.heap.objs.size f cdv)) → sp vs H Q E →
      ∃ t, PSs (cxOf CX P w K mg base N qual scope f cdv A outer s H E) body t ∧ t { nx := fun _ H' => Q .non H', rt := Q } (start N vs) H) :
    FnOk P w K mg base CX (k + 1) f (PySem.W.fnOf name qual params body scope dV kV doc pm an cdv ct) ps sp := by
  refine ⟨len, fun A outer s H args us vs Q E hr e0 hb r hsp => ?_⟩
  have hl := len _ _ _ _ hsp
  have KX : K.In s.heap := e0.mod.kin.keeps fun b o e => (e0.bs b o e).1
  have lim : s.heap.NoLimit := e0.mod.nolimit.keeps fun b o e => (e0.bs b o e).1
  have hkind : ∀ y ∈ ps.zip us, scope.names.lookup y.1 = some .local ∨ (scope.names.lookup y.1 = some .cell ∧ ((cellsFrom (s.heap.objs.size + 1) scope.names []).lookup y.1).isSome = true) := fun ⟨n, v⟩ hy => by
    rcases S.par n (List.of_mem_zip hy).1 with q | q
    · exact .inl q
    · exact .inr ⟨q, PySem.W.cellsFrom_some _ _ _ (.inl q)⟩
  refine codeAny_call_function hr.depth (KX _ _ lk) rfl S.co S.gen rfl (PySem.W.codeRec_of KX hcd) (hb _ _ _ _ ?_)
  refine wpAny_newFunctionEnv_cells S.kind hkind fun env he s1 x => ?_
  subst he
  refine ⟨lim.keeps x.toInCall.keep, codeAny_func ?_⟩
  obtain ⟨t, ht, hq⟩ := hbody A outer s H vs Q E (hr.deeper _) hsp
  have I : Inv (cxOf CX P w K mg base N qual scope f cdv A outer s H E) [] (start N vs) H s1 := inv_start S hr.hd e0 hl r x
  refine wpAny_mono (ht [] s1 (start N vs) H _ I hq) (fun fl s' hs => ?_) fun e s' hs => hs
  have fin : ∀ {σ' : St} {H' : Hp} {v : V} {u : Value}, Inv (cxOf CX P w K mg base N qual scope f cdv A outer s H E) [] σ' H' s' → RelV v u → Q v H' → CE outer P w H s Q u s' :=
    fun {σ' H' v u} J rv q => ⟨v, H', J.os, J.bare, J.base, J.hok, rv, q⟩
  cases fl with
  | ret u =>
    obtain ⟨v, σ', H', J, rv, q⟩ := hs
    exact fin J rv q
  | next =>
    obtain ⟨σ', H', J, q⟩ := hs
    exact fin (v := V.non) (u := Value.none) J rfl q
  | brk =>
    obtain ⟨_, _, _, q⟩ := hs
    exact False.elim q
  | cont =>
    obtain ⟨_, _, _, q⟩ := hs
    exact False.elim q
end L2

namespace L2
open PySem PySem.Spec PyProof.Rows
section
variable {X : Cx} {x : Str} {p pos : Pos} {e : Expr} {es : List Expr} {t : TA} {id T : String} {r : List V → Hp → VK → Prop}

def tCB (r : List V → Hp → VK → Prop) (t : TA) : TE := fun σ H Q => t σ H fun vs H1 => r vs H1 Q
/-- f(e, ..), f a built-in function -/
theorem pe_callB (hc : CallR X (.builtin id) r) (hg : Gl X x) (hm : X.mg x = none) (hv : bootBuiltins x = some (.builtin id)) (ha : PA X (e :: es) t) (hn : x ≠ "__name__" := by decide) (hdb : (x == ("__debug__" : Str)) = false := by decide)
    (he : starEach (e :: es) X.env = (false, eval e X.env) :: starEach es X.env := by rfl) (hpl : (backTo pos (starEach es X.env)).any (·.1) = false := by rfl) : PE X (.Call (.Name x p) (e :: es) [] pos) (tCB r t) := by
  intro pins s σ H Q I h
  refine wpAny_Call_Name_kw (ld_blt I hg hm hv ?_ hn hdb)
  exact PyProof.Rows.callWith_builtin1 (thn (ha pos pins s σ H _ I h) fun us s1 ⟨vs, H1, I1, r1, q1⟩ => hc pins s1 σ H1 vs us Q I1 r1 q1) he hpl
/-- T(e, ..), T a built-in type -/
theorem pe_callTy (hc : CallR X (.type T) r) (hg : Gl X x) (hm : X.mg x = none) (hv : bootBuiltins x = some (.type T)) (ha : PA X (e :: es) t) (hn : x ≠ "__name__" := by decide) (hdb : (x == ("__debug__" : Str)) = false := by decide)
    (he : starEach (e :: es) X.env = (false, eval e X.env) :: starEach es X.env := by rfl) (hpl : (backTo pos (starEach es X.env)).any (·.1) = false := by rfl) : PE X (.Call (.Name x p) (e :: es) [] pos) (tCB r t) := by
  intro pins s σ H Q I h
  refine wpAny_Call_Name_kw (ld_blt I hg hm hv ?_ hn hdb)
  exact PyProof.Rows.callWith_type1 (thn (ha pos pins s σ H _ I h) fun us s1 ⟨vs, H1, I1, r1, q1⟩ => hc pins s1 σ H1 vs us Q I1 r1 q1) he hpl
/-- T() -/
theorem pe_callTy0 (hc : CallR X (.type T) r) (hg : Gl X x) (hm : X.mg x = none) (hv : bootBuiltins x = some (.type T)) (hn : x ≠ "__name__" := by decide) (hdb : (x == ("__debug__" : Str)) = false := by decide) :
    PE X (.Call (.Name x p) [] [] pos) (tCB r tNil) := by
  intro pins s σ H Q I h
  refine wpAny_Call_Name_kw (ld_blt I hg hm hv ?_ hn hdb)
  exact PyProof.Rows.callWith_type0 (hc pins s σ H [] [] Q I .nil h)
end
end L2

namespace HT
open PySem PyProof.Rows

/-- t < u of tuples of ints -/
def lexLt : List Int → List Int → Bool
  | [], [] => false
  | [], _ :: _ => true
  | _ :: _, [] => false
  | x :: xs, y :: ys => if x = y then lexLt xs ys else decide (x < y)
theorem lexLt_cons (x y : Int) (xs ys : List Int) : lexLt (x :: xs) (y :: ys) = if x = y then lexLt xs ys else decide (x < y) := rfl
theorem lexLt_nil_nil : lexLt [] [] = false := rfl
theorem lexLt_nil_cons (y : Int) (ys : List Int) : lexLt [] (y :: ys) = true := rfl
theorem lexLt_cons_nil (x : Int) (xs : List Int) : lexLt (x :: xs) [] = false := rfl

theorem eqAt_int (A : Around) (s : Shared) (a : Int) (t : Tok) (c : Int) (u : Tok) : ∃ e, SeqAt.EqAt A s (.int a t) (.int c u) e ∧ (e = true ↔ a = c) :=
  ⟨(a == c), SeqAt.EqAt.int_int a t c u, by simp⟩
theorem rcLt_int (A : Around) (s : Shared) (a : Int) (t : Tok) (c : Int) (u : Tok) (prog : Program) (w : World) (E : Value → Shared → Prop) (Q : Value → Shared → Prop) (h : Q (.bool (decide (a < c))) s) :
    wpAny (model prog w) A (richCompare .Lt (.int a t) (.int c u)) Q E s :=
  (PyProof.Rows.lt_int h : wpAny (model prog w) A (compareOp .Lt (.int a t) (.int c u)) Q E s)

section
open PySem.SeqAt
open PySem.AutoSeq1 (wpAny_loadPart')
open PySem.MeetsSeq PySem.MeetsSeq2 PySem.MeetsSeq3

theorem tuple_lt_ints (l b : Addr) (items items2 : Array Value) (n n2 : Nat) (dd dd2 : Option Addr) (sl sl2 : Array (Option Value)) (ns ms : List Int) (hi : IntsAre items.toList ns) (hj : IntsAre items2.toList ms) :
    Meets (Builtin.«tuple.__lt__» ⟨[.ref l, .ref b], []⟩)
      (fun _ R s => s.heap.get? l = some { cls := .type "tuple", dict := dd, data := .seq items n, slots := sl } ∧ s.heap.get? b = some { cls := .type "tuple", dict := dd2, data := .seq items2 n2, slots := sl2 } ∧
        R (.ok (.ret (.bool (lexLt ns ms)))) s) :=
  .of_wp fun prog w A R s h => by
    obtain ⟨hp, g, d, tk, os⟩ := s; obtain ⟨hl, hb, h⟩ := h
    have f2 := AutoSeq1.sub_tuple_tuple
    have z1 : items.size = ns.length := by rw [← hi.length]; simp
    have z2 : items2.size = ms.length := by rw [← hj.length]; simp
    wp_walk using wpAny_loadPart' hl, wpAny_loadPart' hb, wpAny_forIn_list _ (fun rest b s' => b.1 = none ∧ s' = ⟨hp, g, d, tk, os⟩ ∧ ∃ (vs ws : List Value) (ns' ms' : List Int), rest = vs.zip ws ∧
      IntsAre vs ns' ∧ IntsAre ws ms' ∧ ns'.length + items2.size = ms'.length + items.size ∧ R (.ok (.ret (.bool (lexLt ns' ms')))) ⟨hp, g, d, tk, os⟩) _
    case turn =>
      rintro ⟨y, x⟩ rest b s' ⟨hb', rfl, vs, ws, ns', ms', hz, hvi, hwi, hlen, hR⟩
      cases hvi with
      | nil => rw [List.zip_nil_left] at hz; cases hz
      | cons a t hvi' =>
        cases hwi with
        | nil => rw [List.zip_nil_right] at hz; cases hz
        | cons c u hwi' =>
          rw [List.zip_cons_cons] at hz
          injection hz with hyx hrest
          injection hyx with hy hx
          subst hy hx
          rw [lexLt_cons] at hR
          simp only [List.length_cons] at hlen
          obtain ⟨e, he, hiff⟩ := eqAt_int A.in1 ⟨hp, g, d, tk, os⟩ a t c u
          refine wpAny_bind (he prog w _ _ ?_)
          cases e with
          | true =>
            rw [if_pos (hiff.mp rfl)] at hR
            wp_walk
            exact ⟨rfl, rfl, _, _, _, _, hrest, hvi', hwi', by omega, hR⟩
          | false =>
            rw [if_neg (fun q => absurd (hiff.mpr q) Bool.false_ne_true)] at hR
            have hri := rcLt_int A.in1 ⟨hp, g, d, tk, os⟩ a t c u prog w
            wp_walk using hri
            exact ⟨_, rfl, by simpa using hR⟩
    case fin =>
      rintro ⟨b1, b2⟩ s' ⟨hb', rfl, vs, ws, ns', ms', hz, hvi, hwi, hlen, hR⟩
      simp only at hb'
      subst hb'
      have hv : lexLt ns' ms' = decide (items.size < items2.size) := by
        cases hvi with
        | nil =>
          cases hwi with
          | nil =>
            simp only [List.length_nil] at hlen
            rw [lexLt_nil_nil]
            exact (decide_eq_false (by omega)).symm
          | cons c u hw =>
            simp only [List.length_nil, List.length_cons] at hlen
            rw [lexLt_nil_cons]
            exact (decide_eq_true (by omega)).symm
        | cons a t hv =>
          cases hwi with
          | nil =>
            simp only [List.length_nil, List.length_cons] at hlen
            rw [lexLt_cons_nil]
            exact (decide_eq_false (by omega)).symm
          | cons c u hw =>
            rw [List.zip_cons_cons] at hz
            cases hz
      rw [hv] at hR
      wp_walk
      exact ⟨_, rfl, by simpa [Builtin.Tuple.tupleCompareSizes] using hR⟩
    case h =>
      exact ⟨rfl, rfl, items.toList, items2.toList, ns, ms, rfl, hi, hj, by omega, h⟩
end

section
variable {prog : Program} {w : World} {A : Around} {E : Value → Shared → Prop} {s : Shared}

theorem lt_tupInts {l b : Addr} {items items2 : Array Value} {ns ms : List Int} {Q : Value → Shared → Prop} (hl : IsTup s.heap l items) (hb : IsTup s.heap b items2) (hi : IntsAre items.toList ns) (hj : IntsAre items2.toList ms)
    (hu : A.units < cLine) (h : Q (.bool (lexLt ns ms)) s) : wpAny (model prog w) A (compareOp .Lt (.ref l) (.ref b)) Q E s := by
  obtain ⟨⟨cls, dd, data, sl⟩, ho, hc, n, hd⟩ := id hl
  obtain ⟨⟨cls2, dd2, data2, sl2⟩, ho2, hc2, n2, hd2⟩ := id hb
  simp only at hc hd hc2 hd2
  subst hc hd hc2 hd2
  exact richCompare_meets_room (op := .Lt) ⟨_, ho, rfl⟩ ⟨_, ho2, rfl⟩ PySem.F.slot_tuple_lt PySem.F.entry_tuple_lt (PySem.F.args_tuple_lt_2 _ _) (tuple_lt_ints l b items items2 n n2 dd dd2 sl sl2 ns ms hi hj)
    ⟨ho, ho2, show Value.bool (lexLt ns ms) ≠ Value.notImplemented ∧ Q (.bool (lexLt ns ms)) s from ⟨(fun x => nomatch x), h⟩⟩ hu

/-- t + u, t not empty -/
theorem cat_tup {t b : Addr} {vs ws : List Value} {Q : Value → Shared → Prop} (ht : IsTup s.heap t vs.toArray) (hb : IsTup s.heap b ws.toArray) (hv : vs ≠ [])
    (h1 : ws = [] → Q (.ref t) s) (h2 : ws ≠ [] → Q (.ref s.heap.objs.size) { s with heap := s.heap.push { cls := .type "tuple", data := .seq (vs ++ ws).toArray } })
    (hsz : vs.length + ws.length ≤ sizeLine) : wpAny (model prog w) A (binaryOp .Add (.ref t) (.ref b)) Q E s := by
  obtain ⟨⟨cls, dd, data, sl⟩, ho, hc, n, hd⟩ := id ht
  obtain ⟨⟨cls2, dd2, data2, sl2⟩, ho2, hc2, n2, hd2⟩ := id hb
  simp only at hc hd hc2 hd2
  subst hc hd hc2 hd2
  have e : vs.toArray ++ ws.toArray = (vs ++ ws).toArray := by simp
  by_cases hw : ws = []
  · exact concat_meets ⟨_, ho, rfl⟩ ⟨_, ho2, rfl⟩ noFill_tuple_add seq_tuple_add PySem.F.slot_tuple_add PySem.F.entry_tuple_add (PySem.F.args_tuple_add_2 _ _)
      (tuple_addW1 t b vs.toArray ws.toArray n n2 dd dd2 sl sl2 (by simpa using hv) (by simp [hw])) ⟨ho, ho2, h1 hw⟩
  · refine concat_meets ⟨_, ho, rfl⟩ ⟨_, ho2, rfl⟩ noFill_tuple_add seq_tuple_add PySem.F.slot_tuple_add PySem.F.entry_tuple_add (PySem.F.args_tuple_add_2 _ _)
      (tuple_addW2 t b vs.toArray ws.toArray n n2 dd dd2 sl sl2 (by simpa using hv) (by simpa using hw) (by rw [List.size_toArray, List.size_toArray]; exact hsz)) ⟨ho, ho2, ?_⟩
    rw [e]
    exact h2 hw

/-! ### t[a:b], not the whole -/
/-- a slice's bound as a place among n (d where it is left out) -/
def sIx (n d : Nat) : Option Int → Nat
  | none => d
  | some v => if v < 0 then (v + (n : Int)).toNat else min v.toNat n
theorem sIx_none (n d : Nat) : sIx n d none = d := rfl
theorem sIx_nat (n d k : Nat) : sIx n d (some (k : Int)) = min k n := by
  show (if (k : Int) < 0 then ((k : Int) + (n : Int)).toNat else min (k : Int).toNat n) = min k n
  rw [if_neg (by omega), Int.toNat_natCast]
theorem sIx_le (n d : Nat) (hd : d ≤ n) (o : Option Int) : sIx n d o ≤ n := by
  cases o with
  | none => exact hd
  | some v =>
    show (if v < 0 then (v + (n : Int)).toNat else min v.toNat n) ≤ n
    by_cases hv : v < 0
    · rw [if_pos hv]; omega
    · rw [if_neg hv]; exact Nat.min_le_right _ _
theorem clip_eq (v : Int) (n d : Nat) : (if v < 0 then max (v + (n : Int)) 0 else min v (n : Int)) = ((sIx n d (some v) : Nat) : Int) := by
  show (if v < 0 then max (v + (n : Int)) 0 else min v (n : Int)) = (((if v < 0 then (v + (n : Int)).toNat else min v.toNat n) : Nat) : Int)
  by_cases hv : v < 0
  · simp only [if_pos hv]; omega
  · simp only [if_neg hv]; omega
theorem adjust_gen (lo hi : Option Int) (n : Nat) : Builtin.Slice.sliceAdjust lo hi 1 (n : Int) = (((sIx n 0 lo : Nat) : Int), ((sIx n n hi : Nat) : Int)) := by
  have h1 : ¬ ((1 : Int) < 0) := by omega
  unfold Builtin.Slice.sliceAdjust
  simp only [h1, if_false]
  refine Prod.ext ?_ ?_
  · cases lo with
    | none => rfl
    | some v => exact clip_eq v n 0
  · cases hi with
    | none => rfl
    | some v => exact clip_eq v n n
theorem places_gen (i j : Nat) : Builtin.Slice.slicePlaces (i : Int) (j : Int) 1 = j - i := by
  unfold Builtin.Slice.slicePlaces
  have h1 : (1 : Int) > 0 := by omega
  simp only [h1, if_true, Int.ediv_one]
  split <;> omega
theorem slicePart_ {v : Value} {o : Option Int} {Q : Option Int → Shared → Prop} (p : IsPart v o) (h : Q o s) : wpAny (model prog w) A (Builtin.Slice.slicePartIndex v) Q E s := by
  cases p with
  | none => exact slicePart_none h
  | int i t => exact slicePart_int h
theorem sliceApplied_gen {sl : Addr} {vl vu : Value} {lo hi : Option Int} {n : Nat} {Q : Int × Int × Nat → Shared → Prop} (hs : s.heap.IsSliceOf sl vl vu .none) (pl : IsPart vl lo) (pu : IsPart vu hi)
    (h : Q (((sIx n 0 lo : Nat) : Int), 1, sIx n n hi - sIx n 0 lo) s) : wpAny (model prog w) A (Builtin.Slice.sliceApplied (.ref sl) (pure (n : Int))) Q E s := by
  obtain ⟨os, hos, hcs, hds⟩ := id hs
  unfold Builtin.Slice.sliceApplied Builtin.Slice.sliceFields
  refine wpAny_bind (wpAny_bind (wpAny_field hos hds (x := vl) rfl (wpAny_bind (wpAny_field hos hds (x := vu) rfl (wpAny_bind (wpAny_field hos hds (x := .none) rfl (wpAny_pure ?_)))))))
  refine wpAny_bind (slicePart_none ?_)
  show wpAny _ _ (if ((1 : Int) == 0) = true then _ else _) _ _ s
  rw [if_neg (by decide)]
  refine wpAny_bind (slicePart_ pl (wpAny_bind (slicePart_ pu (wpAny_bind (wpAny_pure ?_)))))
  show wpAny _ _ (match Builtin.Slice.sliceAdjust lo hi 1 (n : Int) with | (lo, hi) => pure (lo, (1 : Int), Builtin.Slice.slicePlaces lo hi 1)) _ _ s
  rw [adjust_gen lo hi n]
  show wpAny _ _ (pure (((sIx n 0 lo : Nat) : Int), (1 : Int), Builtin.Slice.slicePlaces ((sIx n 0 lo : Nat) : Int) ((sIx n n hi : Nat) : Int) 1)) _ _ s
  rw [places_gen]
  exact wpAny_pure h
theorem pick_gen (xs : Array Value) (i k : Nat) : ((List.range k).filterMap fun (m : Nat) => xs[((i : Int) + (m : Int) * 1).toNat]?).toArray = ((xs.toList.drop i).take k).toArray := by
  have e : (fun (m : Nat) => xs[((i : Int) + (m : Int) * 1).toNat]?) = fun m => xs[i + m]? := by
    funext m
    have : ((i : Int) + (m : Int) * 1).toNat = i + m := by omega
    rw [this]
  rw [e]
  have := pick_run xs i k
  rw [List.filterMap_map] at this
  have e2 : ((fun x => xs[x]?) ∘ fun x => i + x) = fun m => xs[i + m]? := rfl
  rw [e2] at this
  rw [this]

theorem getItem_tuple_cut {t sl : Addr} {items : Array Value} {vl vu : Value} {lo hi : Option Int} {Q : Value → Shared → Prop} (ht : IsTup s.heap t items) (hs : s.heap.IsSliceOf sl vl vu .none) (pl : IsPart vl lo) (pu : IsPart vu hi)
    (hw : ¬ (sIx items.size 0 lo = 0 ∧ sIx items.size items.size hi = items.size))
    (h : Q (.ref s.heap.objs.size) { s with heap := s.heap.push { cls := .type "tuple", data := .seq ((items.toList.drop (sIx items.size 0 lo)).take (sIx items.size items.size hi - sIx items.size 0 lo)).toArray } })
    (hsz : items.size ≤ sizeLine) : wpAny (model prog w) A (getItem (.ref t) (.ref sl)) Q E s := by
  have htake : sizeOk (.seq ((items.toList.drop (sIx items.size 0 lo)).take (sIx items.size items.size hi - sIx items.size 0 lo)).toArray) := by
    show ((items.toList.drop (sIx items.size 0 lo)).take (sIx items.size items.size hi - sIx items.size 0 lo)).toArray.size ≤ sizeLine
    rw [List.size_toArray, List.length_take, List.length_drop, Array.length_toList]
    omega
  have hj : sIx items.size items.size hi ≤ items.size := sIx_le _ _ (Nat.le_refl _) hi
  obtain ⟨os, hos, hcs, hds⟩ := id hs
  have hTs : s.TypeIs (.ref sl) "slice" := ⟨os, hos, hcs⟩
  unfold getItem
  try with_reducible refine wpAny_holding ?_
  first | refine wpAny_bind (wpAny_pure ?_) | skip
  refine wpAny_bind (wpAny_sequenceKey ht.typeIs (by decide) ?_)
  refine wpAny_bind (wpAny_callSpecial?_slot (name := Str.ofString "__getitem__") ht.typeIs PyProof.Rows.slot_tuple_getitem
    (wpAny_call_entry PyProof.Rows.slot_tuple_getitem ht.typeIs entry_tuple_getitem ?_ (args_tuple_getitem _ _)))
  show wpAny _ _ (Builtin.Tuple.tupleItemsOf (.ref t) >>= _) _ _ s
  refine wpAny_bind (tupleItemsOf_ ht ?_)
  refine wpAny_bind (wpAny_typeOf hTs ?_)
  rw [if_pos (by decide)]
  refine wpAny_bind (sliceApplied_gen hs pl pu ?_)
  have hno : ¬ ((((sIx items.size 0 lo : Nat) : Int) == 0 && (1 : Int) == 1 && (sIx items.size items.size hi - sIx items.size 0 lo) == items.size) = true) := by
    intro q
    rw [Bool.and_eq_true, Bool.and_eq_true] at q
    have q1 : ((sIx items.size 0 lo : Nat) : Int) = 0 := eq_of_beq q.1.1
    have q2 : sIx items.size items.size hi - sIx items.size 0 lo = items.size := eq_of_beq q.2
    exact hw ⟨by omega, by omega⟩
  show wpAny _ _ (if (((sIx items.size 0 lo : Nat) : Int) == 0 && (1 : Int) == 1 && (sIx items.size items.size hi - sIx items.size 0 lo) == items.size) = true then _ else _) _ _ s
  rw [if_neg hno, pick_gen]
  first
    | exact wpAny_bind (m := Builtin.Tuple.tupleExact _) (wpAny_newObj_type (wpAny_pure ⟨_, rfl, wpAny_pure h⟩) htake)
    | exact wpAny_bind (m := Builtin.Tuple.tupleExact _) (wpAny_newObj_type (wpAny_bind (wpAny_pure (wpAny_pure ⟨_, rfl, wpAny_pure h⟩))) htake)
    | exact wpAny_bind (wpAny_bind (m := Builtin.Tuple.tupleExact _) (wpAny_newObj_type (wpAny_pure (wpAny_pure ⟨_, rfl, wpAny_pure h⟩)) htake))
    | exact wpAny_bind (wpAny_bind (m := Builtin.Tuple.tupleExact _) (wpAny_newObj_type (wpAny_pure ⟨_, rfl, wpAny_pure h⟩) htake))
end
end HT

namespace L2
open PySem PySem.Spec PyProof.Rows

/-! ### the parts of a slice -/
abbrev TO := St → Hp → (Option Int → Hp → Prop) → Prop
/-- a slice's part (left out, or an int) -/
def PO (X : Cx) (e : Option Expr) (t : TO) : Prop :=
  ∀ (pins : List (Addr × Obj)) (s : Shared) (σ : St) (H : Hp) (Q : Option Int → Hp → Prop), Inv X pins σ H s → t σ H Q →
    wpAny (model X.prog X.w) X.A (evalPart e X.env) (fun u s' => ∃ o H', Inv X pins σ H' s' ∧ IsPart u o ∧ Q o H') X.xe s
def tNoPart : TO := fun _ H Q => Q none H
def tPart (t : TE) : TO := fun σ H Q => t σ H fun x H1 => ∃ i, x = .int i ∧ Q (some i) H1

theorem intsAre_of {ns : List Int} : ∀ {us : List Value}, Vals (ns.map V.int) us → IntsAre us ns := by
  induction ns with
  | nil => intro us r; rw [List.map_nil] at r; cases r; exact .nil
  | cons n ns ih =>
    intro us r
    rw [List.map_cons] at r
    cases r with
    | cons r1 r2 =>
      obtain ⟨t, e⟩ := r1
      subst e
      exact .cons n t (ih r2)

section
variable {X : Cx} {e : Expr} {te : TE} {lo hi : Option Expr} {tl th : TO} {pos p2 : Pos}

theorem po_none : PO X none tNoPart := by
  intro pins s σ H Q I h
  rw [evalPart_none]
  exact wpAny_pure ⟨none, H, I, .none, h⟩
theorem po_some (h : PE X e te) : PO X (some e) (tPart te) := by
  intro pins s σ H Q I hw
  rw [evalPart_some]
  refine thn (h pins s σ H _ I hw) fun u s1 ⟨x, H1, I1, r1, q1⟩ => ?_
  obtain ⟨i, rfl, q⟩ := q1
  obtain ⟨t, rfl⟩ := r1
  exact ⟨some i, H1, I1, .int i t, q⟩

/-- what a slice of a value is, by values: the slice object stands at sl -/
def SlR (X : Cx) (r : V → Option Int → Option Int → Hp → VK → Prop) : Prop :=
  ∀ (pins : List (Addr × Obj)) (s : Shared) (σ : St) (H : Hp) (x : V) (v vl vu : Value) (lo hi : Option Int) (sl : Addr) (Q : VK), Inv X pins σ H s → RelV x v → s.heap.IsSliceOf sl vl vu .none → IsPart vl lo → IsPart vu hi → r x lo hi H Q →
    ∃ T id, typeLookup (.type T) "__getitem__" = pure (some (.builtin id)) ∧ s.TypeIs v T ∧ wpAny (model X.prog X.w) X.A (getItem v (.ref sl)) (EP X pins σ Q) X.xe s
theorem SlR.or {r r' : V → Option Int → Option Int → Hp → VK → Prop} (h : SlR X r) (h' : SlR X r') : SlR X (fun x lo hi H Q => r x lo hi H Q ∨ r' x lo hi H Q) := by
  intro pins s σ H x v vl vu lo hi sl Q I rx hs pl pu q
  rcases q with q | q
  · exact h pins s σ H x v vl vu lo hi sl Q I rx hs pl pu q
  · exact h' pins s σ H x v vl vu lo hi sl Q I rx hs pl pu q
def tSl (r : V → Option Int → Option Int → Hp → VK → Prop) (te : TE) (tl th : TO) : TE := fun σ H Q => te σ H fun x H1 => tl σ H1 fun l H2 => th σ H2 fun u H3 => r x l u H3 Q
/-- a[lo:hi], any a -/
theorem pe_slice {r : V → Option Int → Option Int → Hp → VK → Prop} (hr : SlR X r) (he : PE X e te) (hl : PO X lo tl) (hu : PO X hi th) : PE X (.Subscript e (.Slice lo hi none p2) pos) (tSl r te tl th) := by
  intro pins s σ H Q I h
  refine Subscript_ (thn (he pins s σ H _ I h) fun v s1 ⟨x, H1, I1, r1, q1⟩ => ?_)
  refine wpAny_Slice (thn (hl pins s1 σ H1 _ I1 q1) fun vl s2 ⟨l, H2, I2, pl, q2⟩ => thn (hu pins s2 σ H2 _ I2 q2) fun vu s3 ⟨u, H3, I3, pu, q3⟩ => ?_)
  rw [evalPart_none]
  refine wpAny_pure ?_
  have I4 : Inv X pins σ H3 { s3 with heap := s3.heap.push { cls := .type "slice", data := .fields #[vl, vu, .none] } } := I3.kept (t' := s3.toks) fun b ob q => Heap.get?_push_of_some _ q
  obtain ⟨T, id, hT, ht, hg⟩ := hr pins { s3 with heap := s3.heap.push { cls := .type "slice", data := .fields #[vl, vu, .none] } } σ H3 x v vl vu l u s3.heap.objs.size Q I4 r1 (Heap.IsSliceOf.new ..) pl pu q3
  show wpAny (model X.prog X.w) X.A (subscriptTail e (.Slice lo hi none p2) v (.ref s3.heap.objs.size)) (EP X pins σ Q) X.xe { s3 with heap := s3.heap.push { cls := .type "slice", data := .fields #[vl, vu, .none] } }
  exact tail_any (ops := [.ref s3.heap.objs.size, v]) ht hT hg (by with_unfolding_all rfl)

/-- the items of xs[lo:hi] -/
def cutV (xs : List V) (lo hi : Option Int) : List V := (xs.drop (HT.sIx xs.length 0 lo)).take (HT.sIx xs.length xs.length hi - HT.sIx xs.length 0 lo)
theorem cutV_length (xs : List V) (lo hi : Option Int) : (cutV xs lo hi).length ≤ xs.length := by
  unfold cutV
  rw [List.length_take, List.length_drop]
  omega
/-- t[lo:hi], not the whole of it (the whole would be t itself) -/
def rSlT (K : PySem.W.Frag) : V → Option Int → Option Int → Hp → VK → Prop := fun x lo hi H Q => ∃ a xs, x = .ref a ∧ SqT K H a xs ∧
  ¬ (HT.sIx xs.length 0 lo = 0 ∧ HT.sIx xs.length xs.length hi = xs.length) ∧ ∀ p, H p = none → Q (.ref p) (upd H p (.tup (cutV xs lo hi)))
theorem sl_tup : SlR X (rSlT X.K) := by
  intro pins s σ H x v vl vu lo hi sl Q I rx hs pl pu h
  obtain ⟨a, xs, rfl, hx, hw, q⟩ := h
  cases rx
  obtain ⟨its, r, ht, hz⟩ := I.tuple hx
  have hlen : its.toArray.size = xs.length := by rw [List.size_toArray]; exact r.length.symm
  refine ⟨"tuple", _, PyProof.Rows.slot_tuple_getitem.lookup, ht.typeIs, ?_⟩
  refine HT.getItem_tuple_cut ht hs pl pu (by rw [hlen]; exact hw) ?_ (by rw [hlen]; exact hz)
  rw [hlen]
  refine ⟨.ref s.heap.objs.size, _, I.laid (t' := s.toks) (o := .tup (cutV xs lo hi)) (fun b ob q => Heap.get?_push_of_some _ q) (Nat.le_refl _) ?_, rfl, q _ (I.hok.fresh (Nat.le_refl _))⟩
  exact ⟨Nat.le_trans (cutV_length xs lo hi) hz, _, (r.drop (HT.sIx xs.length 0 lo)).take (HT.sIx xs.length xs.length hi - HT.sIx xs.length 0 lo), IsTup.new _ _⟩

/-! ### t < u, t + u -/
def rLtT (K : PySem.W.Frag) : R2 := fun x y H Q => ∃ a b ns ms, x = .ref a ∧ y = .ref b ∧ SqT K H a (ns.map V.int) ∧ SqT K H b (ms.map V.int) ∧ Q (.bl (HT.lexLt ns ms)) H
theorem op_ltT (hu : X.A.units < cLine) : OpR X (compareOp .Lt) (rLtT X.K) := by
  intro pins s σ H x y v u Q I rx ry h
  obtain ⟨a, b, ns, ms, rfl, rfl, ha, hb, q⟩ := h
  cases rx
  cases ry
  obtain ⟨its, r1, p1, _⟩ := I.tuple ha
  obtain ⟨its2, r2, p2, _⟩ := I.tuple hb
  have i1 : IntsAre its.toArray.toList ns := intsAre_of r1
  have i2 : IntsAre its2.toArray.toList ms := intsAre_of r2
  exact HT.lt_tupInts p1 p2 i1 i2 hu ⟨.bl (HT.lexLt ns ms), H, I, rfl, q⟩
/-- t + u, t not empty: u empty gives t itself -/
def rCatT (K : PySem.W.Frag) : R2 := fun x y H Q => ∃ a b xs ys, x = .ref a ∧ y = .ref b ∧ SqT K H a xs ∧ SqT K H b ys ∧ xs ≠ [] ∧ xs.length + ys.length ≤ sizeLine ∧
  (ys = [] → Q (.ref a) H) ∧ (ys ≠ [] → ∀ p, H p = none → Q (.ref p) (upd H p (.tup (xs ++ ys))))
theorem Vals.nil_iff {xs : List V} {us : List Value} (r : Vals xs us) : us = [] ↔ xs = [] := by
  cases r with
  | nil => simp
  | cons _ _ => simp
theorem op_catT : OpR X (binaryOp .Add) (rCatT X.K) := by
  intro pins s σ H x y v u Q I rx ry h
  obtain ⟨a, b, xs, ys, rfl, rfl, ha, hb, hx, hz, q1, q2⟩ := h
  cases rx
  cases ry
  obtain ⟨its, r1, p1, _⟩ := I.tuple ha
  obtain ⟨its2, r2, p2, _⟩ := I.tuple hb
  refine HT.cat_tup p1 p2 (fun z => hx (r1.nil_iff.mp z)) (fun z => ⟨.ref a, H, I, rfl, q1 (r2.nil_iff.mp z)⟩) (fun z => ?_) (by rw [← r1.length, ← r2.length]; exact hz)
  refine ⟨.ref s.heap.objs.size, _, I.laid (t' := s.toks) (o := .tup (xs ++ ys)) (fun b ob q => Heap.get?_push_of_some _ q) (Nat.le_refl _) ?_, rfl, q2 (fun w => z (r2.nil_iff.mpr w)) _ (I.hok.fresh (Nat.le_refl _))⟩
  exact ⟨by rw [List.length_append]; exact hz, _, r1.append r2, IsTup.new _ _⟩
/-- tuple(t) -/
theorem call_tupleT : CallR X (.type "tuple") (fun xs H Q => ∃ a ys, xs = [.ref a] ∧ SqT X.K H a ys ∧ Q (.ref a) H) := by
  intro pins s σ H xs us Q I r h
  obtain ⟨a, ys, rfl, ha, q⟩ := h
  obtain ⟨u, rfl, ru⟩ := vals1 r
  cases ru
  obtain ⟨its, _, p1, _⟩ := I.tuple ha
  exact call_tuple_same (items := its.toArray) p1 ⟨.ref a, H, I, rfl, q⟩
end
end L2

namespace L2
open PySem PySem.Spec PyProof.Rows

/-! ### places -/
/-- the place that an index of any sign means -/
def ixN (n : Nat) (i : Int) : Option Nat := if 0 ≤ i then (if i < n then some i.toNat else none) else if -(n : Int) ≤ i then some (i + n).toNat else none
def atI {α : Type} (xs : List α) (i : Int) : Option α := (ixN xs.length i).bind fun j => xs[j]?
theorem ixN_seq {n : Nat} {i : Int} {j : Nat} (h : ixN n i = some j) : seqIndex? i n = some j ∧ j < n ∧ -(n : Int) ≤ i ∧ i < n := by
  unfold ixN at h
  by_cases h0 : 0 ≤ i
  · rw [if_pos h0] at h
    by_cases h1 : i < n
    · rw [if_pos h1] at h
      have e : i.toNat = j := Option.some.inj h
      exact ⟨by rw [seqIndex_of h0 h1, e], by omega, by omega, h1⟩
    · rw [if_neg h1] at h; cases h
  · rw [if_neg h0] at h
    by_cases h1 : -(n : Int) ≤ i
    · rw [if_pos h1] at h
      have e : (i + n).toNat = j := Option.some.inj h
      exact ⟨by rw [seqIndex_neg (by omega) h1, e], by omega, h1, by omega⟩
    · rw [if_neg h1] at h; cases h
theorem atI_get {α : Type} {xs : List α} {i : Int} {v : α} (h : atI xs i = some v) : ∃ j, seqIndex? i xs.length = some j ∧ xs[j]? = some v ∧ j < xs.length ∧ -(xs.length : Int) ≤ i ∧ i < xs.length := by
  unfold atI at h
  cases e : ixN xs.length i with
  | none => rw [e] at h; cases h
  | some j =>
    rw [e] at h
    obtain ⟨h1, h2, h3, h4⟩ := ixN_seq e
    exact ⟨j, h1, h, h2, h3, h4⟩
theorem atI_nat {α : Type} {xs : List α} {j : Nat} {v : α} (h : xs[j]? = some v) : atI xs (j : Int) = some v := by
  have hj : j < xs.length := (List.getElem?_eq_some_iff.mp h).1
  have e : ixN xs.length (j : Int) = some j := by
    unfold ixN
    rw [if_pos (by omega), if_pos (by omega)]; simp
  unfold atI; rw [e]; exact h
theorem atI_last {α : Type} (xs : List α) (v : α) : atI (xs ++ [v]) (-1) = some v := by
  have hl : (xs ++ [v]).length = xs.length + 1 := by simp
  have e : ixN (xs ++ [v]).length (-1) = some xs.length := by
    unfold ixN
    rw [hl, if_neg (by decide), if_pos (by omega)]
    congr 1
    omega
  unfold atI
  rw [e]
  show (xs ++ [v])[xs.length]? = some v
  simp

/-! ### what may be subscripted -/
/-- what stands as an index of a plain subscript -/
def PlainIx (b : Expr) : Prop := ∀ o i, subscripted b false o i = operate [o, i] (getItem o i)
/-- a subscript by values -/
def IxR (X : Cx) (r : R2) : Prop :=
  ∀ (value slice : Expr) (pins : List (Addr × Obj)) (s : Shared) (σ : St) (H : Hp) (x y : V) (v u : Value) (Q : VK), Inv X pins σ H s → RelV x v → RelV y u → r x y H Q →
    subscripted slice false v u = operate [v, u] (getItem v u) → wpAny (model X.prog X.w) X.A (subscriptTail value slice v u) (EP X pins σ Q) X.xe s
/-- a call of a builtin's method by values: the receiver, the arguments -/
def MtR (X : Cx) (id : String) (r : V → List V → Hp → VK → Prop) : Prop :=
  ∀ (pins : List (Addr × Obj)) (s : Shared) (σ : St) (H : Hp) (x : V) (xs : List V) (v : Value) (us : List Value) (Q : VK), Inv X pins σ H s → RelV x v → Vals xs us → r x xs H Q →
    wpAny (model X.prog X.w) X.A (call (.builtin id) (v :: us)) (EP X pins σ Q) X.xe s
section
variable {X : Cx} {a b : Expr} {ta tb : TE} {pos : Pos}
theorem IxR.or {r r' : R2} (h : IxR X r) (h' : IxR X r') : IxR X (fun x y H Q => r x y H Q ∨ r' x y H Q) := by
  intro value slice pins s σ H x y v u Q I rx ry q hs
  rcases q with q | q
  · exact h value slice pins s σ H x y v u Q I rx ry q hs
  · exact h' value slice pins s σ H x y v u Q I rx ry q hs
theorem MtR.or {id : String} {r r' : V → List V → Hp → VK → Prop} (h : MtR X id r) (h' : MtR X id r') : MtR X id (fun x xs H Q => r x xs H Q ∨ r' x xs H Q) := by
  intro pins s σ H x xs v us Q I rx rs q
  rcases q with q | q
  · exact h pins s σ H x xs v us Q I rx rs q
  · exact h' pins s σ H x xs v us Q I rx rs q
/-- a[b] -/
theorem pe_ix {r : R2} (hr : IxR X r) (ha : PE X a ta) (hb : PE X b tb) (hs : PlainIx b) : PE X (.Subscript a b pos) (tOp r ta tb) := by
  intro pins s σ H Q I h
  exact Subscript_ (binT ha hb I h fun v u s2 x y H2 I2 rx ry q => hr a b pins s2 σ H2 x y v u Q I2 rx ry q (hs _ _))

def rIxL (K : PySem.W.Frag) : R2 := fun x y H Q => ∃ p xs i v, x = .ref p ∧ y = .int i ∧ SqL K H p xs ∧ atI xs i = some v ∧ Q v H
def rIxT (K : PySem.W.Frag) : R2 := fun x y H Q => ∃ p xs i v, x = .ref p ∧ y = .int i ∧ SqT K H p xs ∧ atI xs i = some v ∧ Q v H
def rIxS : R2 := fun x y H Q => ∃ z i c, x = .str z ∧ y = .int i ∧ z.length ≤ sizeLine ∧ atI z.cps.toList i = some c ∧ Q (.str ⟨#[c]⟩) H
theorem ix_list : IxR X (rIxL X.K) := by
  intro value slice pins s σ H x y v u Q I rx ry h hs
  obtain ⟨p, xs, i, z, rfl, rfl, hq, he, q⟩ := h
  cases rx
  obtain ⟨t, rfl⟩ := ry
  obtain ⟨its, r, pl, hz⟩ := I.list hq
  obtain ⟨j, h1, h2, h3, h4, h5⟩ := atI_get he
  obtain ⟨w, ew, rw'⟩ := r.get h2
  have hl := r.length
  have hn := line63
  have fin : EP X pins σ Q w s := ⟨z, H, I, rw', q⟩
  by_cases h0 : 0 ≤ i
  · have hj : i.toNat = j := by
      rw [seqIndex_of h0 h5] at h1
      exact Option.some.inj h1
    exact item_listR pl.isList h0 (by omega) (by rw [hj]; simpa using ew) fin hs
  · have hj : (i + (its.toArray.size : Int)).toNat = j := by
      rw [seqIndex_neg (by omega) h4] at h1
      rw [List.size_toArray, ← hl]
      exact Option.some.inj h1
    exact subscriptTail_builtinR (x := w) pl.isList.typeIs slot_list_getitem.lookup
      (wpAny_getItem_list_neg (Q := fun r s' => r = w ∧ EP X pins σ Q r s') pl.isList (by omega) (by rw [List.size_toArray] <;> omega) (by omega) (by rw [hj]; simpa using ew) ⟨rfl, fin⟩) hs
theorem ix_tup : IxR X (rIxT X.K) := by
  intro value slice pins s σ H x y v u Q I rx ry h hs
  obtain ⟨p, xs, i, z, rfl, rfl, hq, he, q⟩ := h
  cases rx
  obtain ⟨t, rfl⟩ := ry
  obtain ⟨its, r, pl, hz⟩ := I.tuple hq
  obtain ⟨j, h1, h2, h3, h4, h5⟩ := atI_get he
  obtain ⟨w, ew, rw'⟩ := r.get h2
  have hl := r.length
  have hn := line63
  have fin : EP X pins σ Q w s := ⟨z, H, I, rw', q⟩
  exact subscriptTail_builtinR (x := w) pl.typeIs slot_tuple_getitem.lookup
    (getItem_tuple (j := j) (Q := fun r s' => r = w ∧ EP X pins σ Q r s') pl (by omega) (by omega) (by rw [List.size_toArray, ← hl]; exact h1) (by simpa using ew) ⟨rfl, fin⟩) hs
theorem ix_str : IxR X rIxS := by
  intro value slice pins s σ H x y v u Q I rx ry h hs
  obtain ⟨z, i, c, rfl, rfl, hz, he, q⟩ := h
  obtain ⟨t, rfl⟩ := rx
  obtain ⟨t', rfl⟩ := ry
  obtain ⟨j, h1, h2, h3, h4, h5⟩ := atI_get he
  have hl : z.cps.toList.length = z.length := by simp [Str.length]
  rw [hl] at h1 h4 h5
  have hn := line63
  exact tail_any (typeIs_str s z t) slot_str_getitem.lookup (getItem_str (c := c) (by
    have e1 : decide (i < -(2 ^ 63 : Int)) = false := decide_eq_false (by omega)
    have e2 : decide (i ≥ 2 ^ 63) = false := decide_eq_false (by omega)
    rw [e1, e2, Bool.or_false]) (by rw [h1]; simpa using h2) ⟨.str ⟨#[c]⟩, H, I.tok _, ⟨_, rfl⟩, q⟩) hs
/-- list, tuple or str -/
def rIx (K : PySem.W.Frag) : R2 := fun x y H Q => rIxL K x y H Q ∨ rIxT K x y H Q ∨ rIxS x y H Q
theorem ix_seq : IxR X (rIx X.K) := ix_list.or (ix_tup.or ix_str)

/-! ### xs[i] = v, any sign -/
/-- the list's object behind a store -/
theorem mapSeq_set (its : List Value) (n j : Nat) (u : Value) : Obj.mapSeq (·.setIfInBounds j u) { cls := .type "list", data := .seq its.toArray n } = { cls := .type "list", data := .seq (its.set j u).toArray n } := by
  simp [Obj.mapSeq]
theorem Inv.lst {pins : List (Addr × Obj)} {σ : St} {H : Hp} {s : Shared} {p : Addr} {xs : List V} (I : Inv X pins σ H s) (h : H p = some (.lst xs)) :
    ∃ (its : List Value) (n : Nat), Vals xs its ∧ s.heap.get? p = some { cls := .type "list", data := .seq its.toArray n } ∧ xs.length ≤ sizeLine := by
  obtain ⟨z, its, n, r, e⟩ := I.hok p _ h
  exact ⟨its, n, r, e, z⟩
/-- the list at p is written by an update of its object -/
theorem Inv.lstUpd {pins : List (Addr × Obj)} {σ : St} {H : Hp} {s : Shared} {p : Addr} {xs ys : List V} {its its' : List Value} {n n' : Nat} {f : Obj → Obj} (I : Inv X pins σ H s) (h : H p = some (.lst xs))
    (ho : s.heap.get? p = some { cls := .type "list", data := .seq its.toArray n }) (hf : f { cls := .type "list", data := .seq its.toArray n } = { cls := .type "list", data := .seq its'.toArray n' }) (r : Vals ys its') (hz : ys.length ≤ sizeLine) (t : Nat) :
    Inv X pins σ (upd H p (.lst ys)) { s with heap := s.heap.update p f, toks := t } := by
  have e : (s.heap.update p f).get? p = some { cls := .type "list", data := .seq its'.toArray n' } := by
    rw [Heap.get?_update_self f ho (by rw [hf] <;> rfl), hf]
  refine I.write (x := p) (e := p) (by rw [h]; trivial) (.inl rfl) (fun b u hb q => (Heap.get?_update_other _ _ (Ne.symm hb)).trans q) ⟨_, e⟩ ?_
  exact ⟨hz, its', n', r, e⟩
def rSetL : V → V → V → Hp → (Hp → Prop) → Prop := fun o i v H Q => ∃ p xs k j, o = .ref p ∧ i = .int k ∧ H p = some (.lst xs) ∧ ixN xs.length k = some j ∧ Q (upd H p (.lst (xs.set j v)))
theorem set_list : PSet X rSetL := by
  intro pins s σ H o i v ov iv u Q I ro ri rv h
  obtain ⟨p, xs, k, j, rfl, rfl, hp, hj, q⟩ := h
  cases ro
  obtain ⟨t, rfl⟩ := ri
  obtain ⟨its, n, r, ho, hz⟩ := I.lst hp
  obtain ⟨h1, h2, h3, h4⟩ := ixN_seq hj
  have hl := r.length
  have hn := line63
  have I' : Inv X pins σ (upd H p (.lst (xs.set j v))) { s with heap := s.heap.update p (Obj.mapSeq (·.setIfInBounds j u)) } :=
    I.lstUpd hp ho (mapSeq_set its n j u) (r.set rv j) (by rw [List.length_set]; exact hz) s.toks
  by_cases h0 : 0 ≤ k
  · have hk : k.toNat = j := by
      rw [seqIndex_of h0 h4] at h1
      exact Option.some.inj h1
    exact PySem.W.ki_setAt ho h0 (by omega) (by rw [List.size_toArray, ← hl]; exact h4) (by rw [hk]; exact ⟨_, I', q⟩)
  · have hk : (k + (its.toArray.size : Int)).toNat = j := by
      rw [seqIndex_neg (by omega) h3] at h1
      rw [List.size_toArray, ← hl]
      exact Option.some.inj h1
    exact PySem.W.ki_setBack ho (by omega) (by rw [List.size_toArray, ← hl]; exact h3) (by omega) (by rw [hk]; exact ⟨_, I', q⟩)

/-! ### slices -/
theorem slice_bounds (lo hi : Option Int) (n : Nat) : (sliceBounds lo hi none n).1 = ((HT.sIx n 0 lo : Nat) : Int) ∧ (sliceBounds lo hi none n).2.1 = ((HT.sIx n n hi : Nat) : Int) ∧ (sliceBounds lo hi none n).2.2 = 1 := by
  refine ⟨?_, ?_, rfl⟩
  · cases lo with
    | none => simp [sliceBounds, HT.sIx]
    | some i =>
      simp only [sliceBounds, HT.sIx, Option.getD_none, show (1 : Int) > 0 by decide, if_true]
      by_cases h : i < 0
      · simp only [h, if_true] <;> omega
      · simp only [h, if_false] <;> omega
  · cases hi with
    | none => simp [sliceBounds, HT.sIx]
    | some i =>
      simp only [sliceBounds, HT.sIx, Option.getD_none, show (1 : Int) > 0 by decide, if_true]
      by_cases h : i < 0
      · simp only [h, if_true] <;> omega
      · simp only [h, if_false] <;> omega
theorem slicePick_cut (its : List Value) (lo hi : Option Int) : slicePick its.toArray lo hi none = ((its.drop (HT.sIx its.length 0 lo)).take (HT.sIx its.length its.length hi - HT.sIx its.length 0 lo)).toArray := by
  obtain ⟨h1, h2, h3⟩ := slice_bounds lo hi its.toArray.size
  unfold slicePick
  rw [h1, h2, h3]
  simp only [sliceRange_one, pick_run, List.size_toArray] <;> rfl
/-- xs[lo:hi] of a list: a new list -/
def rSlL (K : PySem.W.Frag) : V → Option Int → Option Int → Hp → VK → Prop := fun x lo hi H Q => ∃ a xs, x = .ref a ∧ SqL K H a xs ∧ ∀ p, H p = none → Q (.ref p) (upd H p (.lst (cutV xs lo hi)))
theorem sl_list : SlR X (rSlL X.K) := by
  intro pins s σ H x v vl vu lo hi sl Q I rx hs pl pu h
  obtain ⟨a, xs, rfl, hx, q⟩ := h
  cases rx
  obtain ⟨its, r, ht, hz⟩ := I.list hx
  have hlen := r.length
  refine ⟨"list", _, slot_list_getitem.lookup, ht.isList.typeIs, ?_⟩
  refine wpAny_getItem_list_slice ht.isList hs pl pu .none (by simp) ?_ (by rw [List.size_toArray] <;> omega)
  rw [slicePick_cut, ← hlen]
  refine ⟨.ref s.heap.objs.size, _, I.laid (t' := s.toks) (o := .lst (cutV xs lo hi)) (fun b ob q => Heap.get?_push_of_some _ q) (Nat.le_refl _) ?_, rfl, q _ (I.hok.fresh (Nat.le_refl _))⟩
  exact ⟨Nat.le_trans (cutV_length xs lo hi) hz, _, 0, (r.drop (HT.sIx xs.length 0 lo)).take (HT.sIx xs.length xs.length hi - HT.sIx xs.length 0 lo), Heap.get?_push_size _ rfl⟩

/-! ### in, not in: flat items -/
def flatV : V → Bool
  | .non => true
  | .bl _ => true
  | .int _ => true
  | .str _ => true
  | _ => false
/-- == of flat values -/
def eqV : V → V → Bool
  | .non, .non => true
  | .bl a, .bl b => a == b
  | .bl a, .int b => (if a then 1 else 0) == b
  | .int a, .bl b => a == (if b then 1 else 0)
  | .int a, .int b => a == b
  | .str a, .str b => a == b
  | _, _ => false
theorem eqAt_V {A : Around} {s : Shared} {y x : V} {u v : Value} (ry : RelV y u) (rx : RelV x v) (fy : flatV y = true) (fx : flatV x = true) : SeqAt.EqAt A s u v (eqV y x) := by
  cases y with
  | non =>
    cases ry
    cases x with
    | non => cases rx; exact SeqAt.EqAt.same _
    | bl b => cases rx; exact SeqAt.EqAt.none_bool b
    | int b => obtain ⟨t, rfl⟩ := rx; exact SeqAt.EqAt.none_int b t
    | str b => obtain ⟨t, rfl⟩ := rx; exact SeqAt.EqAt.none_str b t
    | _ => exact absurd (show false = true from fx) Bool.false_ne_true
  | bl a =>
    cases ry
    cases x with
    | non => cases rx; exact SeqAt.EqAt.bool_none a
    | bl b => cases rx; exact SeqAt.EqAt.bool_bool a b
    | int b => obtain ⟨t, rfl⟩ := rx; exact SeqAt.EqAt.bool_int a b t
    | str b => obtain ⟨t, rfl⟩ := rx; exact SeqAt.EqAt.bool_str a b t
    | _ => exact absurd (show false = true from fx) Bool.false_ne_true
  | int a =>
    obtain ⟨t', rfl⟩ := ry
    cases x with
    | non => cases rx; exact SeqAt.EqAt.int_none a t'
    | bl b => cases rx; exact SeqAt.EqAt.int_bool a t' b
    | int b => obtain ⟨t, rfl⟩ := rx; exact SeqAt.EqAt.int_int a t' b t
    | str b => obtain ⟨t, rfl⟩ := rx; exact SeqAt.EqAt.int_str a t' b t
    | _ => exact absurd (show false = true from fx) Bool.false_ne_true
  | str a =>
    obtain ⟨t', rfl⟩ := ry
    cases x with
    | non => cases rx; exact SeqAt.EqAt.str_none a t'
    | bl b => cases rx; exact SeqAt.EqAt.str_bool a t' b
    | int b => obtain ⟨t, rfl⟩ := rx; exact SeqAt.EqAt.str_int a t' b t
    | str b => obtain ⟨t, rfl⟩ := rx; exact SeqAt.EqAt.str_str a t' b t
    | _ => exact absurd (show false = true from fx) Bool.false_ne_true
  | _ => exact absurd (show false = true from fy) Bool.false_ne_true
/-- the items' answers, read off the values (a value's own answer does not lean on its token) -/
def eqU (x : V) (u : Value) : Bool := match u with
  | .none => eqV .non x
  | .bool b => eqV (.bl b) x
  | .int i _ => eqV (.int i) x
  | .str z _ => eqV (.str z) x
  | _ => false
theorem eqU_of {x y : V} {u : Value} (r : RelV y u) (f : flatV y = true) : eqU x u = eqV y x := by
  cases y with
  | non => cases r; rfl
  | bl b => cases r; rfl
  | int i => obtain ⟨t, rfl⟩ := r; rfl
  | str z => obtain ⟨t, rfl⟩ := r; rfl
  | _ => exact absurd (show false = true from f) Bool.false_ne_true
theorem any_eqU {x : V} : ∀ {xs : List V} {us : List Value}, Vals xs us → xs.all flatV = true → us.any (eqU x) = xs.any fun y => eqV y x
  | _, _, .nil, _ => rfl
  | y :: xs, u :: us, .cons r t, f => by
    rw [List.all_cons, Bool.and_eq_true] at f
    rw [List.any_cons, List.any_cons, eqU_of r f.1, any_eqU t f.2]
theorem mem_eqAt {A : Around} {s : Shared} {x : V} {v : Value} (rx : RelV x v) (fx : flatV x = true) : ∀ {xs : List V} {us : List Value}, Vals xs us → xs.all flatV = true → ∀ u ∈ us, SeqAt.EqAt A s u v (eqU x u)
  | _, _, .nil, _ => fun u hu => by cases hu
  | y :: xs, u :: us, .cons r t, f => fun u' hu => by
    rw [List.all_cons, Bool.and_eq_true] at f
    rcases List.mem_cons.mp hu with rfl | hu
    · rw [eqU_of r f.1]; exact eqAt_V r rx f.1 fx
    · exact mem_eqAt rx fx t f.2 u' hu
def inV (x : V) (xs : List V) : Bool := xs.any fun y => eqV y x
/-- x in a list or tuple of flat items -/
def rIn (K : PySem.W.Frag) (neg : Bool) : R2 := fun x y H Q => ∃ p xs, y = .ref p ∧ (SqL K H p xs ∨ SqT K H p xs) ∧ flatV x = true ∧ xs.all flatV = true ∧ Q (.bl (if neg then !inV x xs else inV x xs)) H
theorem op_in_seq : OpR X (compareOp .In) (rIn X.K false) := by
  intro pins s σ H x y v u Q I rx ry h
  obtain ⟨p, xs, rfl, hq, fx, fs, q⟩ := h
  cases ry
  rcases hq with hq | hq
  · obtain ⟨its, r, pl, hz⟩ := I.list hq
    refine SeqAt.in_listAt (eqU x) pl.isList (fun w hw => mem_eqAt rx fx r fs w (by simpa using hw)) ⟨.bl _, H, I, rfl, ?_⟩
    rw [show its.toArray.any (eqU x) = its.any (eqU x) by simp, any_eqU r fs]
    exact q
  · obtain ⟨its, r, pl, hz⟩ := I.tuple hq
    refine SeqAt.in_tupleAt (eqU x) pl (fun w hw => mem_eqAt rx fx r fs w (by simpa using hw)) ⟨.bl _, H, I, rfl, ?_⟩
    rw [show its.toArray.any (eqU x) = its.any (eqU x) by simp, any_eqU r fs]
    exact q
theorem op_notIn_seq : OpR X (compareOp .NotIn) (rIn X.K true) := by
  intro pins s σ H x y v u Q I rx ry h
  obtain ⟨p, xs, rfl, hq, fx, fs, q⟩ := h
  cases ry
  rcases hq with hq | hq
  · obtain ⟨its, r, pl, hz⟩ := I.list hq
    refine SeqAt.notIn_listAt (eqU x) pl.isList (fun w hw => mem_eqAt rx fx r fs w (by simpa using hw)) ⟨.bl _, H, I, rfl, ?_⟩
    rw [show its.toArray.any (eqU x) = its.any (eqU x) by simp, any_eqU r fs]
    exact q
  · obtain ⟨its, r, pl, hz⟩ := I.tuple hq
    refine SeqAt.notIn_tupleAt (eqU x) pl (fun w hw => mem_eqAt rx fx r fs w (by simpa using hw)) ⟨.bl _, H, I, rfl, ?_⟩
    rw [show its.toArray.any (eqU x) = its.any (eqU x) by simp, any_eqU r fs]
    exact q
theorem op_notIn_str : OpR X (compareOp .NotIn) (fun x y H Q => ∃ i j, x = .str i ∧ y = .str j ∧ Q (.bl (!(!(Builtin.Str.occurrences j i 0 j.length 1).isEmpty))) H) := by
  intro pins s σ H x y v u Q I rx ry h
  obtain ⟨i, j, rfl, rfl, q⟩ := h
  obtain ⟨t, rfl⟩ := rx
  obtain ⟨t', rfl⟩ := ry
  exact notIn_str ⟨.bl _, H, I, rfl, q⟩

/-! ### len, list(x), tuple(x) of any list or tuple that is read -/
theorem call_len_seq : CallR X (.builtin "len") (fun xs H Q => ∃ p ys, xs = [.ref p] ∧ (SqL X.K H p ys ∨ SqT X.K H p ys) ∧ Q (.int ys.length) H) := by
  intro pins s σ H xs us Q I r h
  obtain ⟨p, ys, rfl, hq, q⟩ := h
  obtain ⟨u, rfl, rx⟩ := vals1 r
  cases rx
  have hn := line63
  rcases hq with hq | hq
  · obtain ⟨its, r', pl, hz⟩ := I.list hq
    have hlen := r'.length
    exact Calls.call_len_list pl.isList (by simp only [List.size_toArray] <;> omega) ⟨.int ys.length, H, I.tok _, ⟨s.toks + 1, by rw [List.size_toArray, hlen]⟩, q⟩
  · obtain ⟨its, r', pl, hz⟩ := I.tuple hq
    have hlen := r'.length
    exact len_tuple pl (by simp only [List.size_toArray] <;> omega) ⟨.int ys.length, H, I.tok _, ⟨s.toks + 1, by rw [List.size_toArray, hlen]⟩, q⟩
theorem call_len_str : CallR X (.builtin "len") (fun xs H Q => ∃ z, xs = [.str z] ∧ z.length ≤ sizeLine ∧ Q (.int z.length) H) := by
  intro pins s σ H xs us Q I r h
  obtain ⟨z, rfl, hz, q⟩ := h
  obtain ⟨u, rfl, t, rfl⟩ := vals1 r
  have hn := line63
  exact len_str (by omega) ⟨.int z.length, H, I.tok _, ⟨_, rfl⟩, q⟩
theorem CallR.or {f : Value} {r r' : List V → Hp → VK → Prop} (h : CallR X f r) (h' : CallR X f r') : CallR X f (fun xs H Q => r xs H Q ∨ r' xs H Q) := by
  intro pins s σ H xs us Q I rs q
  rcases q with q | q
  · exact h pins s σ H xs us Q I rs q
  · exact h' pins s σ H xs us Q I rs q
theorem call_list_of : CallR X (.type "list") (fun xs H Q => ∃ p ys, xs = [.ref p] ∧ (SqL X.K H p ys ∨ SqT X.K H p ys) ∧ ∀ l, H l = none → Q (.ref l) (upd H l (.lst ys))) := by
  intro pins s σ H xs us Q I r h
  obtain ⟨p, ys, rfl, hq, q⟩ := h
  obtain ⟨u, rfl, rx⟩ := vals1 r
  cases rx
  have fin : ∀ (its : List Value), Vals ys its → ys.length ≤ sizeLine → ∀ (h' : Heap) (c' : Nat), (∀ b o', s.heap.get? b = some o' → h'.get? b = some o') →
      h'.get? s.heap.objs.size = some { cls := .type "list", dict := none, data := .seq its.toArray c', slots := #[] } → EP X pins σ Q (.ref s.heap.objs.size) { s with heap := h' } := fun its r' hz h' c' kp e =>
    ⟨.ref s.heap.objs.size, _, I.laid (t' := s.toks) kp (Nat.le_refl _) (show ObjOk X.prog X.w _ h' _ (.lst ys) from ⟨hz, its, c', r', e⟩), rfl, q _ (I.hok.fresh (Nat.le_refl _))⟩
  rcases hq with hq | hq
  · obtain ⟨its, r', pl, hz⟩ := I.list hq
    have hlen := r'.length
    obtain ⟨o, ho, hc, n, hd⟩ := pl.isList
    exact call_list_seq p (.inl rfl) ho hc hd (fun h' c' kp e => fin its r' hz h' c' kp e) (by simp only [List.size_toArray] <;> omega)
  · obtain ⟨its, r', pl, hz⟩ := I.tuple hq
    have hlen := r'.length
    obtain ⟨o, ho, hc, n, hd⟩ := pl
    exact call_list_seq p (.inr rfl) ho hc hd (fun h' c' kp e => fin its r' hz h' c' kp e) (by simp only [List.size_toArray] <;> omega)
theorem call_tuple_of : CallR X (.type "tuple") (fun xs H Q => ∃ p ys, xs = [.ref p] ∧ ((SqL X.K H p ys ∧ ∀ l, H l = none → Q (.ref l) (upd H l (.tup ys))) ∨ (SqT X.K H p ys ∧ Q (.ref p) H))) := by
  intro pins s σ H xs us Q I r h
  obtain ⟨p, ys, rfl, h⟩ := h
  obtain ⟨u, rfl, rx⟩ := vals1 r
  cases rx
  rcases h with ⟨hq, q⟩ | ⟨hq, q⟩
  · obtain ⟨its, r', pl, hz⟩ := I.list hq
    have hlen := r'.length
    refine call_tuple_list pl.isList (fun h' kp => ?_) (by simp only [List.size_toArray] <;> omega)
    have I1 : Inv X pins σ H { s with heap := h' } := I.kept (t' := s.toks) kp
    have I2 : Inv X pins σ (upd H h'.objs.size (.tup ys)) { s with heap := h'.push { cls := .type "tuple", data := .seq its.toArray } } :=
      I1.laid (t' := s.toks) (fun b o e => Heap.get?_push_of_some _ e) (Nat.le_refl _) (show ObjOk X.prog X.w _ _ _ (.tup ys) from ⟨hz, its, r', IsTup.new _ _⟩)
    exact ⟨.ref h'.objs.size, _, I2, rfl, q _ (I1.hok.fresh (Nat.le_refl _))⟩
  · obtain ⟨its, r', pl, hz⟩ := I.tuple hq
    exact call_tuple_same pl ⟨.ref p, H, I, rfl, q⟩

/-! ### the call of a builtin's method: o.m(..) -/
/-- the value is of that builtin type -/
def tyV (K : PySem.W.Frag) (T : String) (x : V) (H : Hp) : Prop := match x with
  | .str _ => T = "str"
  | .int _ => T = "int"
  | .ref p => (T = "list" ∧ ∃ xs, SqL K H p xs) ∨ (T = "tuple" ∧ ∃ o, K.lookup p = some o ∧ o.cls = .type "tuple" ∧ o.dict = none) ∨
      (T = "dict" ∧ ((∃ kvs, H p = some (.dK kvs)) ∨ ∃ kvs, H p = some (.dT kvs))) ∨ (T = "set" ∧ ∃ S n, H p = some (.set S n))
  | _ => False
theorem tyV_is {pins : List (Addr × Obj)} {σ : St} {H : Hp} {s : Shared} {T : String} {x : V} {v : Value} (I : Inv X pins σ H s) (r : RelV x v) (ty : tyV X.K T x H) :
    s.TypeIs v T ∧ ∀ a, v = .ref a → ∃ ob, s.heap.get? a = some ob ∧ ob.dict = none := by
  cases x with
  | str z =>
    obtain ⟨t, rfl⟩ := r
    cases (show T = "str" from ty)
    exact ⟨typeIs_str s z t, fun _ e => nomatch e⟩
  | int i =>
    obtain ⟨t, rfl⟩ := r
    cases (show T = "int" from ty)
    exact ⟨typeIs_int s i t, fun _ e => nomatch e⟩
  | ref p =>
    cases r
    rcases ty with ⟨rfl, xs, hq⟩ | ⟨rfl, o, hk, hc, hd⟩ | ⟨rfl, hk⟩ | ⟨rfl, S, n, hk⟩
    · obtain ⟨its, _, pl, _⟩ := I.list hq
      refine ⟨pl.isList.typeIs, fun a e => ?_⟩
      cases e
      obtain ⟨o, n, e, c, hd, _⟩ := pl
      exact ⟨o, e, hd⟩
    · refine ⟨⟨o, I.kIn p o hk, hc⟩, fun a e => ?_⟩
      cases e
      exact ⟨o, I.kIn _ o hk, hd⟩
    · have z : ∃ o, s.heap.get? p = some o ∧ o.ExactDict := by
        rcases hk with ⟨kvs, hk⟩ | ⟨kvs, hk⟩
        · obtain ⟨_, _, _, _, o, _, _, e, ex, _⟩ := I.hok p _ hk
          exact ⟨o, e, ex⟩
        · obtain ⟨_, _, _, _, o, _, _, e, ex, _⟩ := I.hok p _ hk
          exact ⟨o, e, ex⟩
      obtain ⟨o, e, ex⟩ := z
      refine ⟨⟨o, e, ex.1⟩, fun a e2 => ?_⟩
      cases e2
      exact ⟨o, e, ex.2.1⟩
    · obtain ⟨o, _, _, _, e, ex, _⟩ := I.hok p _ hk
      refine ⟨⟨o, e, ex.1⟩, fun a e2 => ?_⟩
      cases e2
      exact ⟨o, e, ex.2.1⟩
  | _ => exact False.elim ty
def tBM0 (K : PySem.W.Frag) (T : String) (r : V → List V → Hp → VK → Prop) (to : TE) : TE := fun σ H Q => to σ H fun x H1 => tyV K T x H1 ∧ r x [] H1 Q
def tBM (K : PySem.W.Frag) (T : String) (r : V → List V → Hp → VK → Prop) (to : TE) (t : TA) : TE := fun σ H Q => to σ H fun x H1 => tyV K T x H1 ∧ t σ H1 fun xs H2 => r x xs H2 Q
variable {o e : Expr} {es : List Expr} {to : TE} {t : TA} {name : Str} {apos cpos : Pos} {T id : String} {r : V → List V → Hp → VK → Prop}
theorem pe_bm0 (pa : PlainAttrs T) (slot : Slot T name id) (hty : typeOf (.builtin id) = pure (.type "method_descriptor")) (hm : MtR X id r) (ho : PE X o to)
    (hbase : attributeBase o name X.env (eval o X.env) = eval o X.env := by rfl) (hline : (apos.endLine == cpos.line) = true := by rfl) : PE X (.Call (.Attribute o name apos) [] [] cpos) (tBM0 X.K T r to) := by
  intro pins s σ H Q I h
  refine wpAny_Call_method0_late hbase hline (thn (ho pins s σ H _ I h) fun v s1 ⟨x, H1, I1, r1, ty, q1⟩ => ?_)
  obtain ⟨h1, h2⟩ := tyV_is I1 r1 ty
  exact ⟨T, id, pa, slot, hty, h1, h2, Calls.callWith_builtin rfl (PySem.evalArgs_none (hm pins s1 σ H1 x [] v [] Q I1 r1 .nil q1))⟩
theorem pe_bm (pa : PlainAttrs T) (slot : Slot T name id) (hty : typeOf (.builtin id) = pure (.type "method_descriptor")) (hm : MtR X id r) (ho : PE X o to) (ha : PA X (e :: es) t)
    (hbase : attributeBase o name X.env (eval o X.env) = eval o X.env := by rfl)
    (hfew : ((backTo cpos (starEach (e :: es) X.env)).all (fun x => !x.1) && (backToKw cpos (keywordEach [] X.env)).all (fun x => x.1.isSome)
      && decide ((e :: es).length + ([] : List Keyword).length + (if ([] : List Keyword).isEmpty then 0 else 1) < 30)) = true := by rfl)
    (hline : (apos.endLine == cpos.line) = true := by rfl) (hs : starEach (e :: es) X.env = (false, eval e X.env) :: starEach es X.env := by rfl) (hplain : (backTo cpos (starEach es X.env)).any (·.1) = false := by rfl) :
    PE X (.Call (.Attribute o name apos) (e :: es) [] cpos) (tBM X.K T r to t) := by
  intro pins s σ H Q I h
  refine wpAny_Call_method_late hbase hfew hline rfl (thn (ho pins s σ H _ I h) fun v s1 ⟨x, H1, I1, r1, ty, q1⟩ => ?_)
  obtain ⟨h1, h2⟩ := tyV_is I1 r1 ty
  refine ⟨T, id, pa, slot, hty, h1, h2, ?_⟩
  have hA := ha cpos pins s1 σ H1 _ I1 q1
  rw [hs] at hA ⊢
  refine Calls.callWith_builtin (by show (false || (backTo cpos (starEach es X.env)).any (·.1)) = false; rw [hplain] <;> rfl) (Calls.evalArgs_plain ?_)
  exact thn hA fun us s2 ⟨vs, H2, I2, r2, q2⟩ => hm pins s2 σ H2 x vs v us Q I2 r1 r2 q2
/- xs.append(e), list.index on a module's tuple .. are MtR facts of 06m -/
end
end L2

namespace L2
open PySem PySem.Spec PyProof.Rows

def MtM (X : Cx) (id : String) (r : V → List V → Hp → VK → Prop) : Prop :=
  ∀ (pins : List (Addr × Obj)) (s : Shared) (σ : St) (H : Hp) (x : V) (xs : List V) (v : Value) (us : List Value) (Q : VK), Inv X pins σ H s → RelV x v → Vals xs us → r x xs H Q →
    wpAny (model X.prog X.w) X.A (call (.builtin id) (v :: us)) (EP X pins σ Q) X.xe s

/-! ### lists of values -/
theorem Vals.one : ∀ {x : V} {us : List Value}, Vals [x] us → ∃ u, us = [u] ∧ RelV x u
  | _, _, .cons r .nil => ⟨_, rfl, r⟩
theorem Vals.two : ∀ {x y : V} {us : List Value}, Vals [x, y] us → ∃ u v, us = [u, v] ∧ RelV x u ∧ RelV y v
  | _, _, _, .cons r (.cons q .nil) => ⟨_, _, rfl, r, q⟩
theorem Vals.zero : ∀ {us : List Value}, Vals [] us → us = []
  | _, .nil => rfl
theorem Vals.dropLast {xs : List V} {us : List Value} (h : Vals xs us) : Vals xs.dropLast us.dropLast := by
  induction h with
  | nil => exact .nil
  | cons r t ih =>
    cases t with
    | nil => exact .nil
    | cons q t' => exact .cons r ih
theorem Vals.eraseIdx : ∀ {xs : List V} {us : List Value} (i : Nat), Vals xs us → Vals (xs.eraseIdx i) (us.eraseIdx i)
  | _, _, _, .nil => .nil
  | _, _, 0, .cons _ t => t
  | _, _, i + 1, .cons r t => .cons r (Vals.eraseIdx i t)
theorem Vals.reverse {xs : List V} {us : List Value} (h : Vals xs us) : Vals xs.reverse us.reverse := by
  induction h with
  | nil => exact .nil
  | cons r t ih => rw [List.reverse_cons, List.reverse_cons]; exact Vals.append ih (.cons r .nil)
theorem Vals.rep {xs : List V} {us : List Value} (h : Vals xs us) : ∀ k : Nat, Vals (List.replicate k xs).flatten (List.replicate k us).flatten
  | 0 => .nil
  | k + 1 => by
    rw [List.replicate_succ, List.replicate_succ, List.flatten_cons, List.flatten_cons]
    exact Vals.append h (Vals.rep h k)
theorem erase_last {α : Type} (l : List α) : l.eraseIdx (l.length - 1) = l.dropLast := by
  induction l with
  | nil => rfl
  | cons a r ih =>
    cases r with
    | nil => rfl
    | cons b r =>
      have e : (a :: b :: r).length - 1 = ((b :: r).length - 1) + 1 := by
        have h1 : (a :: b :: r).length = r.length + 2 := rfl
        have h2 : (b :: r).length = r.length + 1 := rfl
        omega
      rw [e, List.eraseIdx_cons_succ, ih]
      all_goals rfl
theorem len_erase {α : Type} : ∀ (l : List α) (i : Nat), (l.eraseIdx i).length ≤ l.length
  | [], _ => Nat.le_refl _
  | _ :: _, 0 => Nat.le_succ _
  | _ :: r, i + 1 => Nat.succ_le_succ (len_erase r i)
theorem foldl_rep (its : List Value) : ∀ (k : Nat) (acc : List Value),
    List.foldl (fun x1 x2 => x1 ++ x2) acc.toArray (List.replicate k its.toArray) = (acc ++ (List.replicate k its).flatten).toArray
  | 0, acc => by simp
  | k + 1, acc => by
    have e : acc.toArray ++ its.toArray = (acc ++ its).toArray := by simp
    have e2 : (acc ++ its) ++ (List.replicate k its).flatten = acc ++ (List.replicate (k + 1) its).flatten := by
      rw [List.replicate_succ, List.flatten_cons, List.append_assoc]
    rw [← e2, ← foldl_rep its k (acc ++ its), ← e, List.replicate_succ, List.foldl_cons]

section
variable {X : Cx} {pins : List (Addr × Obj)} {σ : St} {H : Hp} {s : Shared} {l b : Addr} {xs ys zs : List V}

/-! ### the two steps: a tracked list is rewritten, a new list is laid -/
theorem Inv.lset {its its' : List Value} {n : Nat} {f : Array Value → Array Value} {t' : Nat} (I : Inv X pins σ H s) (hH : H l = some (.lst xs))
    (e : s.heap.get? l = some { cls := .type "list", data := .seq its.toArray n }) (hf : f its.toArray = its'.toArray) (hv : Vals ys its') (hz : ys.length ≤ sizeLine) :
    Inv X pins σ (upd H l (.lst ys)) { s with heap := s.heap.update l (Obj.mapSeq f), toks := t' } := by
  have q := PySem.IsL.update e f
  rw [hf] at q
  refine I.write (x := l) (e := l) (by rw [hH]; exact trivial) (.inl rfl) (fun b' u hb hu => (Heap.get?_update_other s.heap (Obj.mapSeq f) (Ne.symm hb)).trans hu) ⟨_, q⟩ ?_
  exact ⟨hz, its', _, hv, q⟩
theorem Inv.lnew {its : List Value} {t' : Nat} (I : Inv X pins σ H s) (hv : Vals ys its) (hz : ys.length ≤ sizeLine) :
    Inv X pins σ (upd H s.heap.objs.size (.lst ys)) { s with heap := s.heap.push { cls := .type "list", data := .seq its.toArray }, toks := t' } :=
  I.laid (fun _ _ q => Heap.get?_push_of_some _ q) (Nat.le_refl _) ⟨hz, its, 0, hv, Heap.get?_push_size _ rfl⟩
theorem Inv.fresh (I : Inv X pins σ H s) : H s.heap.objs.size = none := I.hok.fresh (Nat.le_refl _)
theorem Inv.lstM (I : Inv X pins σ H s) (hH : H l = some (.lst xs)) : xs.length ≤ sizeLine ∧ ∃ (its : List Value) (n : Nat), Vals xs its ∧ xs.length = its.length ∧ s.heap.get? l = some { cls := .type "list", data := .seq its.toArray n } := by
  obtain ⟨z, its, n, r, e⟩ := I.hok l _ hH
  exact ⟨z, its, n, r, r.length, e⟩

theorem notLongL {n : Nat} (h : n ≤ sizeLine) : Builtin.List.listTooLong n = false := by
  unfold Builtin.List.listTooLong
  exact decide_eq_false (by omega)
end

section
variable {X : Cx}

/-! ### methods -/
def rAppend : V → List V → Hp → VK → Prop := fun x vs H Q => ∃ l xs y, x = .ref l ∧ vs = [y] ∧ H l = some (.lst xs) ∧ xs.length < sizeLine ∧ Q .non (upd H l (.lst (xs ++ [y])))
theorem mt_append : MtM X "list.append" rAppend := by
  intro pins s σ H x vs v us Q I rx rv h
  obtain ⟨l, xs, y, rfl, rfl, hH, hz, q⟩ := h
  cases rx
  obtain ⟨u, rfl, ru⟩ := rv.one
  obtain ⟨z, its, n, r, hl, e⟩ := I.lstM hH
  refine call_meets F.slot_list_append ⟨_, e, rfl⟩ F.entry_list_append (F.args_list_append_2 _ _) (PySem.list_append l its.toArray n u (by rw [List.size_toArray]; omega)) ⟨e, ?_⟩
  refine ⟨.non, _, I.lset (its' := its ++ [u]) hH e (by simp) (r.append (.cons ru .nil)) ?_, rfl, q⟩
  rw [List.length_append, List.length_singleton]
  omega

def rExtend : V → List V → Hp → VK → Prop := fun x vs H Q => ∃ l b xs zs, x = .ref l ∧ vs = [.ref b] ∧ H l = some (.lst xs) ∧ H b = some (.lst zs) ∧ xs.length + zs.length ≤ sizeLine ∧ Q .non (upd H l (.lst (xs ++ zs)))
theorem mt_extend : MtM X "list.extend" rExtend := by
  intro pins s σ H x vs v us Q I rx rv h
  obtain ⟨l, b, xs, zs, rfl, rfl, hH, hB, hz, q⟩ := h
  cases rx
  obtain ⟨u, rfl, ru⟩ := rv.one
  cases ru
  obtain ⟨z, its, n, r, hl, e⟩ := I.lstM hH
  obtain ⟨z2, its2, n2, r2, hl2, e2⟩ := I.lstM hB
  have hsz : its.toArray.size + its2.toArray.size ≤ sizeLine := by rw [List.size_toArray, List.size_toArray]; omega
  have hlong : ¬ (!its.toArray.isEmpty && Builtin.List.listTooLong (its.toArray.size + its2.toArray.size)) = true := by
    rw [notLongL hsz, Bool.and_false]
    exact Bool.false_ne_true
  refine call_meets F.slot_list_extend ⟨_, e, rfl⟩ F.entry_list_extend (F.args_list_extend_2 _ _)
    (AutoSeq1.list_extend_list_list_0 l its.toArray n b its2.toArray n2 hlong (by rw [List.size_toArray]; omega) (by omega)) ⟨e, e2, ?_⟩
  refine ⟨.non, _, I.lset (its' := its ++ its2) hH e (by simp) (r.append r2) ?_, rfl, q⟩
  rw [List.length_append]
  omega

def rPop : V → List V → Hp → VK → Prop := fun x vs H Q => ∃ l xs y, x = .ref l ∧ vs = [] ∧ H l = some (.lst xs) ∧ xs[xs.length - 1]? = some y ∧ Q y (upd H l (.lst xs.dropLast))
theorem mt_pop : MtM X "list.pop" rPop := by
  intro pins s σ H x vs v us Q I rx rv h
  obtain ⟨l, xs, y, rfl, rfl, hH, hy, q⟩ := h
  cases rx
  have hus := rv.zero
  subst hus
  obtain ⟨z, its, n, r, hl, e⟩ := I.lstM hH
  obtain ⟨u, hu, ru⟩ := r.get hy
  have hy' : its.toArray[its.toArray.size - 1]? = some u := by
    show its.toArray[its.length - 1]? = some u
    rw [← Array.getElem?_toList, ← hl]
    exact hu
  refine call_meets F.slot_list_pop ⟨_, e, rfl⟩ F.entry_list_pop (F.args_list_pop_1 _) (MeetsSeq.list_pop_last l its.toArray n u hy' (by rw [List.size_toArray]; omega)) ⟨e, ?_⟩
  refine ⟨y, _, I.lset (its' := its.dropLast) hH e ?_ r.dropLast ?_, ru, q⟩
  · show its.toArray.eraseIdxIfInBounds (its.toArray.size - 1) = its.dropLast.toArray
    rw [List.size_toArray, List.eraseIdxIfInBounds_toArray, erase_last]
  · rw [List.length_dropLast]
    omega

def rPopAt : V → List V → Hp → VK → Prop := fun x vs H Q => ∃ l xs i k y, x = .ref l ∧ vs = [.int i] ∧ H l = some (.lst xs) ∧ -(2 ^ 63) ≤ i ∧ i < 2 ^ 63 ∧ seqIndex? i xs.length = some k ∧ xs[k]? = some y ∧ Q y (upd H l (.lst (xs.eraseIdx k)))
theorem mt_popAt : MtM X "list.pop" rPopAt := by
  intro pins s σ H x vs v us Q I rx rv h
  obtain ⟨l, xs, i, k, y, rfl, rfl, hH, h1, h2, hk, hy, q⟩ := h
  cases rx
  obtain ⟨u, rfl, ru⟩ := rv.one
  obtain ⟨t, rfl⟩ := ru
  obtain ⟨z, its, n, r, hl, e⟩ := I.lstM hH
  obtain ⟨w, hw, rw'⟩ := r.get hy
  refine call_meets F.slot_list_pop ⟨_, e, rfl⟩ F.entry_list_pop (F.args_list_pop_2 _ _)
    (MeetsSeq.list_pop_at l its.toArray n i t k w (fitsIndex_both h1 h2) (by rw [List.size_toArray, ← hl]; exact hk) (by rw [← Array.getElem?_toList]; exact hw) (by rw [List.size_toArray]; omega)) ⟨e, ?_⟩
  refine ⟨y, _, I.lset (its' := its.eraseIdx k) hH e ?_ (r.eraseIdx k) ?_, rw', q⟩
  · show its.toArray.eraseIdxIfInBounds k = (its.eraseIdx k).toArray
    rw [List.eraseIdxIfInBounds_toArray]
  · have := len_erase xs k
    omega

def rReverse : V → List V → Hp → VK → Prop := fun x vs H Q => ∃ l xs, x = .ref l ∧ vs = [] ∧ H l = some (.lst xs) ∧ Q .non (upd H l (.lst xs.reverse))
theorem mt_reverse : MtM X "list.reverse" rReverse := by
  intro pins s σ H x vs v us Q I rx rv h
  obtain ⟨l, xs, rfl, rfl, hH, q⟩ := h
  cases rx
  have hus := rv.zero
  subst hus
  obtain ⟨z, its, n, r, hl, e⟩ := I.lstM hH
  refine call_meets F.slot_list_reverse ⟨_, e, rfl⟩ F.entry_list_reverse (F.args_list_reverse_1 _) (AutoSeq1.list_reverse_list_0 l its.toArray n (by rw [List.size_toArray]; omega)) ⟨e, ?_⟩
  refine ⟨.non, _, I.lset (its' := its.reverse) hH e (by simp) r.reverse ?_, rfl, q⟩
  rw [List.length_reverse]
  omega

def rClear : V → List V → Hp → VK → Prop := fun x vs H Q => ∃ l xs, x = .ref l ∧ vs = [] ∧ H l = some (.lst xs) ∧ Q .non (upd H l (.lst []))
theorem mt_clear : MtM X "list.clear" rClear := by
  intro pins s σ H x vs v us Q I rx rv h
  obtain ⟨l, xs, rfl, rfl, hH, q⟩ := h
  cases rx
  have hus := rv.zero
  subst hus
  obtain ⟨z, its, n, r, hl, e⟩ := I.lstM hH
  refine call_meets F.slot_list_clear ⟨_, e, rfl⟩ F.entry_list_clear (F.args_list_clear_1 _) (AutoSeq1.list_clear_list_0 l its.toArray n (by rw [List.size_toArray]; omega)) ⟨e, ?_⟩
  exact ⟨.non, _, I.lset (its' := []) (ys := []) hH e rfl .nil (Nat.zero_le _), rfl, q⟩

/-! ### list + list, list += list, list * int -/
def rCat : R2 := fun x y H Q => ∃ l b xs zs, x = .ref l ∧ y = .ref b ∧ H l = some (.lst xs) ∧ H b = some (.lst zs) ∧ xs.length + zs.length ≤ sizeLine ∧ ∀ p, H p = none → Q (.ref p) (upd H p (.lst (xs ++ zs)))
theorem op_cat : OpR X (binaryOp .Add) rCat := by
  intro pins s σ H x y v u Q I rx ry h
  obtain ⟨l, b, xs, zs, rfl, rfl, hH, hB, hz, q⟩ := h
  cases rx
  cases ry
  obtain ⟨z, its, n, r, hl, e⟩ := I.lstM hH
  obtain ⟨z2, its2, n2, r2, hl2, e2⟩ := I.lstM hB
  refine PySem.P.add_list e e2 ?_ (by rw [List.size_toArray, List.size_toArray]; omega)
  have ea : its.toArray ++ its2.toArray = (its ++ its2).toArray := by simp
  rw [ea]
  exact ⟨.ref _, _, I.lnew (t' := s.toks) (r.append r2) (by rw [List.length_append]; omega), rfl, q _ I.fresh⟩
/-- a list times an int (a negative one is nothing) -/
def rRep : R2 := fun x y H Q => ∃ l k xs, x = .ref l ∧ y = .int k ∧ H l = some (.lst xs) ∧ -(2 ^ 63) ≤ k ∧ k < 2 ^ 63 ∧ xs.length * k.toNat ≤ sizeLine ∧
  ∀ p, H p = none → Q (.ref p) (upd H p (.lst (List.replicate k.toNat xs).flatten))
theorem len_rep {α : Type} (xs : List α) (k : Nat) : (List.replicate k xs).flatten.length = k * xs.length := by
  induction k with
  | zero => simp
  | succ k ih => rw [List.replicate_succ, List.flatten_cons, List.length_append, ih, Nat.succ_mul, Nat.add_comm]
theorem op_rep : OpR X (binaryOp .Mult) rRep := by
  intro pins s σ H x y v u Q I rx ry h
  obtain ⟨l, k, xs, rfl, rfl, hH, h1, h2, hz, q⟩ := h
  cases rx
  obtain ⟨t, rfl⟩ := ry
  obtain ⟨z, its, n, r, hl, e⟩ := I.lstM hH
  have hlen : its.toArray.size * k.toNat ≤ sizeLine := by rw [List.size_toArray, ← hl]; exact hz
  have hcap : ¬ its.toArray.size * k.toNat > (2 ^ 63 - 1) / 8 := by
    have : (sizeLine : Nat) ≤ (2 ^ 63 - 1) / 8 := by decide
    omega
  have hfit : ¬ (!Builtin.List.listFitsIndex k) = true := by
    rw [fitsIndex_both h1 h2]
    exact Bool.false_ne_true
  have hlong : ¬ Builtin.List.listTooLong (its.toArray.size * k.toNat) = true := by
    rw [notLongL hlen]
    exact Bool.false_ne_true
  have hnew : List.foldl (fun x1 x2 => x1 ++ x2) #[] (List.replicate (if its.toArray.isEmpty = true then 0 else k.toNat) its.toArray) = (List.replicate k.toNat its).flatten.toArray := by
    have f0 : ∀ m : Nat, List.foldl (fun x1 x2 => x1 ++ x2) #[] (List.replicate m its.toArray) = (List.replicate m its).flatten.toArray := fun m => by
      have := foldl_rep its m []
      rw [List.nil_append] at this
      exact this
    rw [f0]
    cases its with
    | nil => simp
    | cons a r' => rw [if_neg (by simp)]
  refine wpAny_binaryOp_repeat_ref (T := "list") (U := "int") (by decide) ⟨_, e, rfl⟩ (fun s' => typeIs_int s' k t) noFill_list_mul F.fills_int_mul F.slot_int_rmul repeat_list F.slot_int_index.lookup
    (call_meets F.slot_int_rmul (typeIs_int s k t) F.entry_int_rmul (F.args_int_rmul_2 _ _) (int___rmul___int_list k t l its.toArray n)
      ⟨e, rfl, ⟨_, e, rfl⟩, call_meets F.slot_list_mul ⟨_, e, rfl⟩ F.entry_list_mul (F.args_list_mul_2 _ _) (AutoListH.list___mul___list_int_3 l its.toArray n k t hfit hcap hlong) ⟨e, ?_⟩⟩)
  rw [hnew]
  exact ⟨.ref _, _, I.lnew (t' := s.toks) (r.rep k.toNat) (by rw [len_rep, Nat.mul_comm]; exact hz), rfl, q _ I.fresh⟩

/-! ### del xs[i] -/
theorem del_list {pins : List (Addr × Obj)} {s : Shared} {σ : St} {H : Hp} {l : Addr} {xs : List V} {i : Int} {t : Tok} {k : Nat} {Q : Unit → Shared → Prop} (I : Inv X pins σ H s) (hH : H l = some (.lst xs))
    (h1 : -(2 ^ 63) ≤ i) (h2 : i < 2 ^ 63) (hk : seqIndex? i xs.length = some k) (h : ∀ s', Inv X pins σ (upd H l (.lst (xs.eraseIdx k))) s' → Q () s') :
    wpAny (model X.prog X.w) X.A (delItem (.ref l) (.int i t)) Q X.xe s := by
  obtain ⟨z, its, n, r, hl, e⟩ := I.lstM hH
  refine PySem.P.delItem_list (k := k) e (fitsIndex_both h1 h2) (by rw [List.size_toArray, ← hl]; exact hk) (h _ ?_) (by rw [List.size_toArray]; omega)
  refine I.lset (its' := its.eraseIdx k) (t' := s.toks) hH e ?_ (r.eraseIdx k) ?_
  · show its.toArray.eraseIdxIfInBounds k = (its.eraseIdx k).toArray
    rw [List.eraseIdxIfInBounds_toArray]
  · have := len_erase xs k
    omega
end

/-! ### xs[a:b] = ys -/
section
variable {prog : Program} {w : World} {A : Around} {E : Value → Shared → Prop} {s : Shared}
theorem splice_eq (its its2 : List Value) (a c : Nat) : its.toArray.extract 0 a ++ its2.toArray ++ its.toArray.extract c its.toArray.size = (its.take a ++ its2 ++ its.drop c).toArray := by
  apply Array.toList_inj.mp
  first
    | (simp
       exact List.take_of_length_le (by simp))
    | simp [List.take_of_length_le]
    | simp
theorem bounds_run {a c n : Nat} (hac : a ≤ c) (hc : c ≤ n) : sliceBounds (some (a : Int)) (some (c : Int)) none n = ((a : Int), (c : Int), 1) := by
  simp only [sliceBounds, Option.getD_none]
  have h1 : ¬ ((a : Int) < 0) := by omega
  have h2 : ¬ ((c : Int) < 0) := by omega
  simp only [h1, h2, if_false, show (1 : Int) > 0 by decide, if_true]
  congr 1
  · omega
  · congr 1; omega
set_option maxRecDepth 100000 in
/-- list.__setitem__ with a slice of step one and another list -/
theorem setItem_slice {l b sl : Addr} {items new : Array Value} {n n2 : Nat} {vl vu : Value} {a c : Nat} {Q : Unit → Shared → Prop}
    (e : s.heap.get? l = some { cls := .type "list", data := .seq items n }) (e2 : s.heap.get? b = some { cls := .type "list", data := .seq new n2 }) (hne : l ≠ b)
    (hs : s.heap.IsSliceOf sl vl vu .none) (pl : IsPart vl (some (a : Int))) (pu : IsPart vu (some (c : Int))) (hac : a ≤ c) (hc : c ≤ items.size)
    (hsz : items.size + new.size ≤ sizeLine) (h : Q () { s with heap := s.heap.update l (Obj.mapSeq fun xs => xs.extract 0 a ++ new ++ xs.extract c xs.size) }) :
    wpAny (model prog w) A (setItem (.ref l) (.ref sl) (.ref b)) Q E s := by
  have hl : s.heap.IsList l items := PySem.IsL.isList e
  have hb : s.heap.IsList b new := PySem.IsL.isList e2
  obtain ⟨os, hos, hcs, hds⟩ := id hs
  have hTs : s.TypeIs (.ref sl) "slice" := ⟨os, hos, hcs⟩
  have hstep : ¬ ((rawPart none == rawInt 0) = true) := Bool.false_ne_true
  have hsame : Builtin.List.listSameRef (.ref l) (.ref b) = false := by
    unfold Builtin.List.listSameRef
    exact beq_eq_false_iff_ne.mpr hne
  have hmax : (max (a : Int) (c : Int)).toNat = c := by omega
  have hz' : ((fun xs : Array Value => xs.extract 0 a ++ new ++ xs.extract c xs.size) items).size ≤ sizeLine + 1 := by
    simp only [Array.size_append, Array.size_extract]
    omega
  unfold setItem
  try with_reducible refine wpAny_holding ?_
  first | refine wpAny_bind (wpAny_pure ?_) | skip
  refine wpAny_bind (wpAny_sequenceKey hl.typeIs (by decide) ?_)
  refine wpAny_bind (wpAny_callSpecial?_slot (name := Str.ofString "__setitem__") hl.typeIs slot_list_setitem
    (wpAny_call_entry slot_list_setitem hl.typeIs entry_list_setitem ?_ (args_list_setitem _ _ _)))
  show wpAny _ _ (Builtin.List.listSubscript? (.ref sl) >>= _) _ _ s
  refine wpAny_bind ?_
  unfold Builtin.List.listSubscript?
  refine wpAny_bind (wpAny_specialOf hTs slice_no_index ?_)
  simp only [Option.isNone_none, if_true]
  refine wpAny_pure ?_
  show wpAny _ _ (typeOf (.ref sl) >>= _) _ _ s
  refine wpAny_bind (wpAny_typeOf hTs ?_)
  first
    | rw [if_neg (by decide)]
    | refine PySem.W.KFB.if_not (by decide) ?_
  rw [listSliceParts_eq]
  refine wpAny_bind (wpAny_bind (wpAny_field hos hds (x := .none) rfl (wpAny_bind (wpAny_listPart .none ?_))))
  rw [if_neg hstep]
  refine wpAny_bind (wpAny_field hos hds (x := vl) rfl (wpAny_bind (wpAny_listPart pl ?_)))
  refine wpAny_bind (wpAny_field hos hds (x := vu) rfl (wpAny_bind (wpAny_listPart pu (wpAny_pure ?_))))
  first
    | simp only [hsame, Bool.false_eq_true, if_false]
    | refine PySem.W.KFB.if_not hsame ?_
    | (dsimp only
       rw [if_neg (by rw [hsame]; exact Bool.false_ne_true)])
  refine wpAny_bind (m := Builtin.List.listAllItems (.ref b) "must assign iterable to extended slice") ?_
  unfold Builtin.List.listAllItems
  refine wpAny_bind (wpAny_typeOf hb.typeIs ?_)
  first
    | refine PySem.W.KFB.if_so (by decide) ?_
    | rw [if_pos (by decide)]
    | simp only [beq_self_eq_true, Bool.true_or, if_true]
  unfold Builtin.List.listItems
  refine wpAny_bind (wpAny_seqItems e2 rfl (wpAny_pure ?_))
  refine wpAny_bind (wpAny_bind (wpAny_seqItems e rfl (wpAny_pure ?_)))
  refine wpAny_bind (wpAny_of_eq ((sliceIndices_raw (some (a : Int)) (some (c : Int)) none items.size (by simp)).trans (congrArg (pure : Int × Int × Int → Sem (Int × Int × Int)) (bounds_run hac hc))) ?_)
  show wpAny _ _ (if ((1 : Int) == 1) = true then _ else _) _ _ s
  rw [if_pos (by decide)]
  refine wpAny_bind (wpAny_rule ?_)
  first
    | simp only [notLongL hsz, Bool.false_eq_true, if_false]
    | refine PySem.W.KFB.if_not (notLongL hsz) ?_
  first | refine wpAny_bind (wpAny_pure ?_) | skip
  show wpAny _ _ (updateSeq l (fun xs => xs.extract 0 ((a : Int)).toNat ++ new ++ xs.extract (max (a : Int) (c : Int)).toNat xs.size) >>= _) _ _ s
  rw [hmax, Int.toNat_natCast]
  refine wpAny_bind (wpAny_updateSeq (hz := Nat.le_trans (Nat.le_add_right _ _) hsz) (_hz' := hz') e rfl ?_)
  refine wpAny_bind (wpAny_letGo ?_)
  first
    | exact wpAny_bind (wpAny_pure (wpAny_pure ⟨.none, rfl, wpAny_pure h⟩))
    | exact wpAny_pure ⟨.none, rfl, wpAny_pure h⟩
end

section
variable {X : Cx}
/-- xs[a:c] = ys of another list, at the value level: sl is the slice object that was just made -/
theorem set_slice {pins : List (Addr × Obj)} {s : Shared} {σ : St} {H : Hp} {l b sl : Addr} {xs ys : List V} {a c : Int} {vl vu : Value} {Q : Unit → Shared → Prop} (I : Inv X pins σ H s)
    (hH : H l = some (.lst xs)) (hB : H b = some (.lst ys)) (hne : l ≠ b) (hs : s.heap.IsSliceOf sl vl vu .none) (ra : RelV (.int a) vl) (rc : RelV (.int c) vu) (h0 : 0 ≤ a) (hac : a ≤ c) (hc : c ≤ xs.length)
    (hz : xs.length + ys.length ≤ sizeLine) (h : ∀ s', Inv X pins σ (upd H l (.lst (xs.take a.toNat ++ ys ++ xs.drop c.toNat))) s' → Q () s') :
    wpAny (model X.prog X.w) X.A (setItem (.ref l) (.ref sl) (.ref b)) Q X.xe s := by
  obtain ⟨ta, rfl⟩ := ra
  obtain ⟨tc, rfl⟩ := rc
  obtain ⟨z, its, n, r, hl, e⟩ := I.lstM hH
  obtain ⟨z2, its2, n2, r2, hl2, e2⟩ := I.lstM hB
  obtain ⟨a', rfl⟩ := Int.eq_ofNat_of_zero_le h0
  obtain ⟨c', rfl⟩ := Int.eq_ofNat_of_zero_le (Int.le_trans h0 hac)
  simp only [Int.toNat_natCast] at h
  refine setItem_slice (a := a') (c := c') e e2 hne hs (.int _ _) (.int _ _) (by omega) (by rw [List.size_toArray]; omega) (by rw [List.size_toArray, List.size_toArray]; omega) (h _ ?_)
  refine I.lset (its' := its.take a' ++ its2 ++ its.drop c') (t' := s.toks) hH e ?_ (Vals.append (Vals.append (r.take _) r2) (r.drop _)) ?_
  · exact splice_eq its its2 a' c'
  · rw [List.length_append, List.length_append, List.length_take, List.length_drop]
    omega
end
end L2

namespace Att
open PySem PySem.W PySem.Calls PyProof.Rows

/-! ### the script -/
theorem ints_of_wellAll {P : Params} {h : Heap} : ∀ (ns : List Int) (vs : List Value), WellAll P h vs (ns.map WData.int) → IntsAre vs ns := by
  intro ns
  induction ns with
  | nil =>
    intro vs w
    rw [List.map_nil] at w
    cases w
    exact .nil
  | cons n ns ih =>
    intro vs w
    rw [List.map_cons] at w
    cases w with
    | cons a b =>
      cases a
      exact .cons _ _ (ih _ b)

theorem script_of {l : OpenLaw} {n : Nat} (hn : l.most = some n) {P : Params} {h : Heap} {args : List WData} {vals : List Value}
    (hpre : l.row.toRowW.claim.pre args = true) (hwl : WellAll P h vals args) :
    ∃ a vs ns, vals = [Value.ref a] ∧ args = [WData.list (ns.map WData.int)] ∧ h.get? a = some { cls := .type "list", data := .seq vs.toArray } ∧ IntsAre vs ns ∧ ns.length ≤ n := by
  have hsh : WShape.hasAll [] args [.list .int] = true := (pre_splitW hpre).1
  have hc : l.pre.holds [] { args := args } = true := (pre_splitW hpre).2
  obtain ⟨d, r, rfl, h1, h2⟩ := hasAllW_cons hsh
  obtain rfl := hasAllW_nil h2
  obtain ⟨xs, rfl, h3⟩ := hasW_list h1
  obtain ⟨ns, rfl⟩ := items_int h3
  have hlen : ns.length ≤ n := by
    unfold OpenLaw.pre at hc
    have h4 : (WTm.not (.lt (.lit (.int (n : Int))) (.len (.arg 0)))).holds [] { args := [.list (ns.map .int)] } = true := by
      have h4 := (holds_andW hc).1
      rw [hn] at h4
      exact h4
    have h5 := condW_of h4 (w_not (w_lt w_lit (w_len_list (w_arg rfl))))
    rw [List.length_map] at h5
    refine Nat.le_of_not_lt fun q => ?_
    have q' : (n : Int) < ((ns.length : Nat) : Int) := by omega
    first
      | (rw [decide_eq_true q'] at h5; exact absurd h5 (by decide))
      | (simp at h5; omega)
  cases hwl with
  | cons w1 w2 =>
    cases w2
    cases w1 with
    | list ho hall => exact ⟨_, _, ns, rfl, rfl, ho, ints_of_wellAll ns _ hall, hlen⟩

theorem post_true (l : OpenLaw) (args : List WData) : l.row.toRowW.claim.post args (.bool true) args = true :=
  postW_of (r := l.row.toRowW) (X := (true == true))
    (show WShape.has [] (.bool true) .bool = true by first | rfl | decide | simp [WShape.has, WShape.arms, WShape.armsAll])
    (show (WTm.eq .res (.lit (.bool true))).value [] { args := args, res := some (.bool true), after := args } = some (.bool (true == true)) from w_eq_bool (w_res rfl) w_lit) rfl

/-! ### the attachment: holds_open's last premise (the goal 'hc' behind k_head) from a wpAny of the law's body -/
theorem attach {l : OpenLaw} {n : Nat} {q : Program} {loose : List Str} {XP : (Str → Option Value) → Heap → Prop} {YP : World → Heap → Prop} {d : DefRec} {x : Str}
    (hn : l.most = some n) (hdf : d.params.defaults = [])
    (hbind : ∀ pm cd doc v : Value, bindArgs (docDef d.name d.params d.body d.scope pm cd doc) ⟨[v], []⟩ = pure [(x, v)])
    (hx : d.scope.names.lookup x = some .local ∨ d.scope.names.lookup x = some .cell)
    (hk : d.scope.kind = .function) (hco : d.scope.isCoroutine = false) (hgen : d.scope.isGenerator = false)
    (body : ∀ (w : World) (s₀ s₁ s : Shared) (mg mb : Str → Option Value) (fa : Addr) (o : Obj) (pm cd doc : Value) (a : Addr) (vs : List Value) (ns : List Int),
      Ground q loose [] XP w s₀ mg mb s₁.heap → YP w s₁.heap →
      s₁.heap.get? fa = some o → o.data = .func (docDef d.name d.params d.body d.scope pm cd doc) → s₁.heap.CodeRec cd d.name → mg d.name = some (.ref fa) →
      s₁.heap.get? a = some { cls := .type "list", data := .seq vs.toArray } → IntsAre vs ns → ns.length ≤ n →
      s.gens = #[] → s.os = s₁.os →
      Fr s₁.heap s₁.heap.objs.size s.heap (bindL (envOfC d.name d.scope s₁.heap.objs.size fa cd).kindOf [(x, .ref a)] fun _ => none) →
      Cl s₁.heap.objs.size (cellsFrom (s₁.heap.objs.size + 1) d.scope.names []) s.heap (bindC (envOfC d.name d.scope s₁.heap.objs.size fa cd).kindOf [(x, .ref a)] fun _ => none) →
      wpAny (model l.prog w) (callerA.deeper (envOfC d.name d.scope s₁.heap.objs.size fa cd)) (execs d.body (envOfC d.name d.scope s₁.heap.objs.size fa cd))
        (fun f s' => f = .ret (.bool true) ∧ OldK s₁.heap s'.heap ∧ s'.os = s₁.os ∧ AllBare s'.gens) (fun _ _ => False) s) :
    WalkO q loose XP YP l.row.toRowW d [] (fun f vs => PySem.call f vs) := by
  intro w s₀ s₁ mg mb G Y fa o pm cd doc dV kV ho hd hcd hD hmg hg args vals as hpre hlay hrd hwl hlo
  obtain rfl : dV = .none := Dflts.none hD hdf
  obtain rfl : kV = .none := Dflts.noKw hD
  obtain ⟨a, vs, ns, rfl, rfl, hobj, hints, hlen⟩ := script_of hn hpre hwl
  refine enter_call ?_
  refine call_cells_ret (o := o) (by rw [depth_caller]; decide) ho (fd_plain hd) G.T.nolimit hcd (hbind pm cd doc (.ref a)) (fun y hy => ?_) (fun h₁ tk F X => ?_) hco hgen hk
  · obtain rfl : y = (x, Value.ref a) := List.mem_singleton.mp hy
    rcases hx with e | e
    · exact .inl e
    · exact .inr ⟨e, cellsFrom_some _ _ _ (.inl e)⟩
  · refine wpAny_mono (body w s₀ s₁ { s₁ with heap := h₁, toks := tk } mg mb fa o pm cd doc a vs ns G Y ho (fd_plain hd) hcd hmg hobj hints hlen hg rfl F X) (fun f s' hq => ?_) (fun _ _ hq => hq)
    obtain ⟨rfl, h2, h3, h4⟩ := hq
    exact ⟨.inl ⟨.bool true, .bool true, [], rfl, fun _ => rfl, .bool true, post_true l _, fun _ => ⟨List.Pairwise.nil, fun _ hm => (nomatch hm)⟩⟩, h2, h3, h4⟩

/-- the same from a codeAny of the CALL (for a layer whose function contracts speak of calls) -/
theorem attach_call {l : OpenLaw} {n : Nat} {q : Program} {loose : List Str} {XP : (Str → Option Value) → Heap → Prop} {YP : World → Heap → Prop} {d : DefRec}
    (hn : l.most = some n) (hdf : d.params.defaults = [])
    (call : ∀ (w : World) (s₀ s₁ : Shared) (mg mb : Str → Option Value) (fa : Addr) (o : Obj) (pm cd doc : Value) (a : Addr) (vs : List Value) (ns : List Int),
      Ground q loose [] XP w s₀ mg mb s₁.heap → YP w s₁.heap →
      s₁.heap.get? fa = some o → o.data = .func (docDef d.name d.params d.body d.scope pm cd doc) → s₁.heap.CodeRec cd d.name → mg d.name = some (.ref fa) →
      s₁.heap.get? a = some { cls := .type "list", data := .seq vs.toArray } → IntsAre vs ns → ns.length ≤ n → s₁.gens = #[] →
      codeAny (model l.prog w) callerA (.call (.ref fa) ⟨[.ref a], []⟩) (fun r s' => r = .ok (.ret (.bool true)) ∧ OldK s₁.heap s'.heap ∧ s'.os = s₁.os ∧ AllBare s'.gens) s₁) :
    WalkO q loose XP YP l.row.toRowW d [] (fun f vs => PySem.call f vs) := by
  intro w s₀ s₁ mg mb G Y fa o pm cd doc dV kV ho hd hcd hD hmg hg args vals as hpre hlay hrd hwl hlo
  obtain rfl : dV = .none := Dflts.none hD hdf
  obtain rfl : kV = .none := Dflts.noKw hD
  obtain ⟨a, vs, ns, rfl, rfl, hobj, hints, hlen⟩ := script_of hn hpre hwl
  refine enter_call (codeAny_mono (call w s₀ s₁ mg mb fa o pm cd doc a vs ns G Y ho (fd_plain hd) hcd hmg hobj hints hlen hg) fun r s' hq => ?_)
  obtain ⟨rfl, h2, h3, h4⟩ := hq
  exact ⟨.inl ⟨.bool true, .bool true, [], rfl, fun _ => rfl, .bool true, post_true l _, fun _ => ⟨List.Pairwise.nil, fun _ hm => (nomatch hm)⟩⟩, h2, h3, h4⟩

/-- the same where the top left finished generators (o_head chose holds_openN): nothing may have changed at all and no generator may be left -/
theorem attachN {l : OpenLaw} {n : Nat} {q : Program} {loose : List Str} {XP : (Str → Option Value) → Heap → Prop} {YP : World → Heap → Prop} {d : DefRec} {x : Str}
    (hn : l.most = some n) (hdf : d.params.defaults = [])
    (hbind : ∀ pm cd doc v : Value, bindArgs (docDef d.name d.params d.body d.scope pm cd doc) ⟨[v], []⟩ = pure [(x, v)])
    (hx : d.scope.names.lookup x = some .local ∨ d.scope.names.lookup x = some .cell)
    (hk : d.scope.kind = .function) (hco : d.scope.isCoroutine = false) (hgen : d.scope.isGenerator = false)
    (body : ∀ (w : World) (s₀ s₁ s : Shared) (mg mb : Str → Option Value) (fa : Addr) (o : Obj) (pm cd doc : Value) (a : Addr) (vs : List Value) (ns : List Int),
      Ground q loose [] XP w s₀ mg mb s₁.heap → YP w s₁.heap →
      s₁.heap.get? fa = some o → o.data = .func (docDef d.name d.params d.body d.scope pm cd doc) → s₁.heap.CodeRec cd d.name → mg d.name = some (.ref fa) →
      s₁.heap.get? a = some { cls := .type "list", data := .seq vs.toArray } → IntsAre vs ns → ns.length ≤ n →
      s.gens = #[] → s.os = s₁.os →
      Fr s₁.heap s₁.heap.objs.size s.heap (bindL (envOfC d.name d.scope s₁.heap.objs.size fa cd).kindOf [(x, .ref a)] fun _ => none) →
      Cl s₁.heap.objs.size (cellsFrom (s₁.heap.objs.size + 1) d.scope.names []) s.heap (bindC (envOfC d.name d.scope s₁.heap.objs.size fa cd).kindOf [(x, .ref a)] fun _ => none) →
      wpAny (model l.prog w) (callerA.deeper (envOfC d.name d.scope s₁.heap.objs.size fa cd)) (execs d.body (envOfC d.name d.scope s₁.heap.objs.size fa cd))
        (fun f s' => f = .ret (.bool true) ∧ (∀ b o, s₁.heap.get? b = some o → s'.heap.get? b = some o) ∧ s'.os = s₁.os ∧ s'.gens = #[]) (fun _ _ => False) s) :
    WalkN q loose XP YP l.row.toRowW d [] (fun f vs => PySem.call f vs) := by
  intro w s₀ s₁ mg mb G Y fa o pm cd doc dV kV ho hd hcd hD hmg hg args vals as hpre hlay hrd hwl hlo
  obtain rfl : dV = .none := Dflts.none hD hdf
  obtain rfl : kV = .none := Dflts.noKw hD
  obtain ⟨a, vs, ns, rfl, rfl, hobj, hints, hlen⟩ := script_of hn hpre hwl
  refine enter_callW ?_
  refine call_cells_ret (o := o) (by rw [depth_caller]; decide) ho (fd_plain hd) G.T.nolimit hcd (hbind pm cd doc (.ref a)) (fun y hy => ?_) (fun h₁ tk F X => ?_) hco hgen hk
  · obtain rfl : y = (x, Value.ref a) := List.mem_singleton.mp hy
    rcases hx with e | e
    · exact .inl e
    · exact .inr ⟨e, cellsFrom_some _ _ _ (.inl e)⟩
  · refine wpAny_mono (body w s₀ s₁ { s₁ with heap := h₁, toks := tk } mg mb fa o pm cd doc a vs ns G Y ho (fd_plain hd) hcd hmg hobj hints hlen hg rfl F X) (fun f s' hq => ?_) (fun _ _ hq => hq)
    obtain ⟨rfl, h2, h3, h4⟩ := hq
    exact ⟨.inl ⟨.bool true, .bool true, [], rfl, fun _ => rfl, .bool true, post_true l _, fun _ => ⟨List.Pairwise.nil, fun _ hm => (nomatch hm)⟩⟩, h2, h3, h4⟩

/-! ### rules over ANY heap (no ledger) from facts about the written part K: the library's own take a ledger (News) for what they write -/
section
variable {prog : Program} {w : World} {A : Around} {E : Value → Shared → Prop} {s : Shared} {K : Frag}

/-- a def of the module, or a method (qual 'C.m'), entered: the frame is the next address; cells behind it -/
theorem call_fn {R : Result → Shared → Prop} {name qual : Str} {params : Arguments} {body : List Stmt} {scope : Scope} {dV kV doc pm cdv ct oc : Value} {an od : Option Addr} {osl : Array (Option Value)} {f : Addr} {args : Args} {binds : List (Str × Value)}
    (X : K.In s.heap) (hlim : s.heap.NoLimit) (ho : K.lookup f = some ⟨oc, od, .func (fnOf name qual params body scope dV kV doc pm an cdv ct), osl⟩) (hcd : codeIn K cdv qual = true) (hroom : A.depth < recursionLimit)
    (hbind : BindsTo s (fnOf name qual params body scope dV kV doc pm an cdv ct) args binds)
    (hkind : (binds.all fun y => scope.names.lookup y.1 == some .local || scope.names.lookup y.1 == some .cell) = true)
    (h : ∀ s₁, InCallC s s.heap.objs.size (bindL (envOfC qual scope s.heap.objs.size f cdv).kindOf binds fun _ => none) (cellsFrom (s.heap.objs.size + 1) scope.names [])
        (bindC (envOfC qual scope s.heap.objs.size f cdv).kindOf binds fun _ => none) s₁ →
      wpAny (model prog w) (A.deeper (envOfC qual scope s.heap.objs.size f cdv)) (execs body (envOfC qual scope s.heap.objs.size f cdv))
        (fun fl s' => R (.ok (.ret (match fl with | .ret v => v | _ => .none))) s')
        (fun e s' => wpAny (model prog w) (A.deeper (envOfC qual scope s.heap.objs.size f cdv)) (leaving (envOfC qual scope s.heap.objs.size f cdv) e) (fun _ s'' => R (.error e) s'') (fun e' s'' => R (.error e') s'') s') s₁)
    (hco : scope.isCoroutine = false) (hgen : scope.isGenerator = false) (hk : scope.kind = .function) : codeAny (model prog w) A (.call (.ref f) args) R s := by
  refine codeAny_call_function hroom (X _ _ ho) rfl hco hgen rfl (codeRec_of X hcd) (hbind _ _ _ _ ?_)
  refine wpAny_newFunctionEnv_cells hk (kindsX hkind _) fun env he s₁ x => ?_
  subst he
  exact ⟨hlim.keeps x.toInCall.keep, codeAny_func (h s₁ x)⟩

/-- C(..): dict at size, instance at size + 1, then __init__ -/
theorem make_obj {R : Result → Shared → Prop} {C fI : Addr} {rest : List Value} {kw : List (Str × Value)}
    (X : K.In s.heap) (hm : makesIn K C = true) (hi : findIn K (.ref C) "__init__" = some (some (.ref fI))) (hf : isFn K (.ref fI) = true)
    (h : codeAny (model prog w) (A.under (.builtin "type.__call__" ⟨.ref C :: rest, kw⟩)) (.call (.ref fI) ⟨.ref (s.heap.objs.size + 1) :: rest, kw⟩) (InitBack (s.heap.objs.size + 1) R)
      { s with heap := (s.heap.push emptyDict).push (instObj C s.heap.objs.size) }) : codeAny (model prog w) A (.call (.ref C) ⟨rest, kw⟩) R s := by
  obtain ⟨hh, g, d, t, os⟩ := s
  exact make_core (makes_of X hm) (looks_findIn X hi) (fun self => bind_fn X self (beq_iff_eq.mp hf)) (.inl rfl) h

/-- x.name where the instance's dict holds the name and the class does not -/
theorem get_field {x C : Addr} {ox : Obj} {es : List DictEntry} {n : Nat} {name : Str} {expr : Bool} {v : Value} {Q : Value → Shared → Prop}
    (X : K.In s.heap) (I : PySem.W.InstAt s.heap x ox C (some (dictOf es n))) (hg : plainGet K C name = true) (hh : hasDictIn K C = true) (ha : findIn K (.ref C) name = some none)
    (hl : getL name es = some (some v)) (hv : handedIn v = true) (h : Q v { s with toks := s.toks + 1 }) : wpAny (model prog w) A (getAttr (.ref x) name expr) Q E s :=
  get_value X I (plainGet_of hg).1 (findObj_own hh ha rfl hl) hv h

/-- x.m(..): the method found in the class -/
theorem get_method {x C f : Addr} {ox : Obj} {es : List DictEntry} {n : Nat} {name : Str} {pl : Sem Bool} {Q : Value × List Value → Shared → Prop}
    (X : K.In s.heap) (I : PySem.W.InstAt s.heap x ox C (some (dictOf es n))) (hg : plainGet K C name = true) (hf : findIn K (.ref C) name = some (some (.ref f))) (ht : isFn K (.ref f) = true)
    (hl : getL name es = some none) (h : Q (.ref f, [.ref x]) s) : wpAny (model prog w) A (getMethod (.ref x) name pl) Q E s :=
  method_fn X I (plainGet_of hg).1 (plainGet_of hg).2 hf (beq_iff_eq.mp ht) (by show (lookIn name (dictOf es n)).map _ = _; rw [lookIn_dict, hl]; rfl) h

/-! the whole heap as the ledger: makes every rule that writes through a ledger a rule over any heap -/
def noObjs (h : Heap) : Heap := { h with objs := #[] }
theorem noObjs_get (h : Heap) (b : Addr) : (noObjs h).get? b = none := by
  cases e : (noObjs h).get? b with
  | none => rfl
  | some o => exact absurd (Heap.lt_size e) (Nat.not_lt_zero _)
def ledger (h : Heap) (L d : Addr) : List (Addr × Obj) := (List.range h.objs.size).filterMap fun a => if a = L ∨ a = d then none else (h.get? a).map fun o => (a, o)
theorem mem_ledger {h : Heap} {L d a : Addr} {o : Obj} : (a, o) ∈ ledger h L d ↔ a ≠ L ∧ a ≠ d ∧ h.get? a = some o := by
  unfold ledger
  rw [List.mem_filterMap]
  constructor
  · rintro ⟨b, _, e⟩
    split at e
    · cases e
    · rename_i hb
      obtain ⟨o', ho, e'⟩ := Option.map_eq_some_iff.mp e
      cases e'
      exact ⟨fun q => hb (.inl q), fun q => hb (.inr q), ho⟩
  · rintro ⟨n1, n2, ho⟩
    refine ⟨a, List.mem_range.mpr (Heap.lt_size ho), ?_⟩
    rw [if_neg (show ¬ (a = L ∨ a = d) from fun q => q.elim n1 n2), ho] <;> rfl
theorem news_ledger {h : Heap} {L d : Addr} {od : Obj} (hne : d ≠ L) (ho : h.get? d = some od) : News (noObjs h) L h ([] ++ (d, od) :: ledger h L d) := by
  rintro ⟨a, o⟩ hp
  rcases List.mem_cons.mp hp with e | hp
  · cases e
    exact ⟨ho, hne, noObjs_get _ _⟩
  · obtain ⟨n1, n2, e⟩ := mem_ledger.mp hp
    exact ⟨e, n1, noObjs_get _ _⟩
theorem fr_all {h : Heap} {L : Addr} {m : Str → Option Value} (n : h.Ns L m) : Fr (noObjs h) L h m :=
  ⟨n, fun b o e => (by rw [noObjs_get] at e; cases e), Nat.zero_le _⟩
/-- Upd of the head entry (for append_K, setItem_K ..) -/
theorem upd_ledger {h : Heap} {L d : Addr} {o o' : Obj} : Upd d o o' ((d, o) :: ledger h L d) ((d, o') :: ledger h L d) :=
  .head fun ⟨_, _⟩ hp => (mem_ledger.mp hp).2.1

/-- x.name = v over any heap: L is any namespace of the heap (the frame's, say): its map stays, its object is not told; all else but the dict stays -/
theorem set_field {x C dx L : Addr} {ox : Obj} {m : Str → Option Value} {es es' : List DictEntry} {n n' : Nat} {name : Str} {v : Value} {Q : Unit → Shared → Prop}
    (X : K.In s.heap) (I : PySem.W.InstAt s.heap x ox C (some (dictOf es n))) (hd : ox.dict = some dx) (hL : s.heap.Ns L m) (hne : dx ≠ L)
    (hs : findIn K (.ref C) "__setattr__" = some (some (.builtin "object.__setattr__"))) (hp : plainOver K C = true) (ht : takerIn K C name = some none) (hh : hasDictIn K C = true) (hl : (getL name es).isSome = true)
    (e : (putL name (PyData.keyHash w.params name) (.str name (s.toks + 1)) v es, putN name es n) = (es', n')) (hz : es'.length ≤ 1000)
    (h : ∀ h' : Heap, h'.Ns L m → h'.get? dx = some (dictOf es' n') → (∀ b o, b ≠ dx → b ≠ L → s.heap.get? b = some o → h'.get? b = some o) → Q () { s with heap := h', toks := s.toks + 2 }) :
    wpAny (model prog w) A (setAttr (.ref x) name v) Q E s := by
  obtain ⟨e1, e2⟩ := Prod.mk.inj e
  have hdx : s.heap.get? dx = some (dictOf es n) := by
    have := I.dict
    rw [hd] at this
    exact this
  refine set_plain X I hs (osa_dict (s := { s with toks := s.toks + 1 }) (h₀ := noObjs s.heap) (L := L) (m := m) (od := dictOf es n) (od' := dictOf es' n') (es := es') (n := n') (pre := []) (post := ledger s.heap L dx)
    (fr_all hL) (news_ledger hne hdx) X I hd hp ht hh hl (fun _ q => nomatch q) (fun ⟨_, _⟩ q => (mem_ledger.mp q).2.1) (by rw [putName_dict, e1, e2]) rfl hz fun h' F' N' => ?_)
  exact h h' F'.ns (N'.get (List.Mem.head _)) fun b o n1 n2 ho => N'.get (List.Mem.tail _ (mem_ledger.mpr ⟨n2, n1, ho⟩))
end
end Att

namespace L2
open PySem PySem.Spec PyProof.Rows

theorem vals_ints : ∀ {vs : List Value} {ns : List Int}, IntsAre vs ns → Vals (ns.map V.int) vs
  | _, _, .nil => .nil
  | _, _, .cons n t h => .cons ⟨t, rfl⟩ (vals_ints h)

/-- nothing is tracked but the script, known to the object (or it is an object of the module) -/
def Only (H : Hp) : Prop := ∀ b, H b = none ∨ ∃ o xs, H b = some (.frz o (.lst xs))

/-- THE HEAD: the law's promise, at the heap behind the top. F, the promise of the law's def, may use that base is part of the heap (so K.In base, base.Ns mainGlobals mg stand in Mod) -/
theorem law_call {P : Program} {w : World} {K : PySem.W.Frag} {mg mb : Str → Option Value} {CX : CXT} {k : Nat} {fa a : Addr} {fd : FuncData} {x : Str} {sp : Sp} {s₁ : Shared} {vs : List Value} {ns : List Int}
    (KX : K.In s₁.heap) (hns : s₁.heap.Ns mainGlobals mg) (hb : s₁.heap.Ns builtinsNs mb) (hbb : ∀ x : Str, x ≠ "__name__" → mb x = bootBuiltins x) (hlim : s₁.heap.NoLimit) (hg : s₁.gens = #[])
    (ha : s₁.heap.get? a = some { cls := .type "list", data := .seq vs.toArray }) (hi : IntsAre vs ns) (hl : ns.length ≤ sizeLine) (hr : Room k callerA)
    (F : ∀ base : Heap, K.In base → base.Ns mainGlobals mg → FnOk P w K mg base CX k fa fd [x] sp) (hbind : ∀ (s : Shared) (u : Value), BindsTo s fd ⟨[u], []⟩ [(x, u)])
    (hsp : ∀ H : Hp, Only H → SqL K H a (ns.map V.int) → sp [.ref a] H (fun v _ => v = .bl true) fun _ _ _ => False)
    (hCX : ∀ H e s', CX [] H s₁ (fun _ _ _ => False) e s' → False) :
    codeAny (model P w) callerA (.call (.ref fa) ⟨[.ref a], []⟩) (fun r s' => r = .ok (.ret (.bool true)) ∧ OldK s₁.heap s'.heap ∧ s'.os = s₁.os ∧ AllBare s'.gens) s₁ := by
  have rv := vals_ints hi
  have lenV := hi.length
  -- from an abstract heap in which nothing but the script may be tracked
  have core : ∀ H : Hp, Only H → SqL K H a (ns.map V.int) → HOk P w H s₁.heap → (∀ b, H b ≠ none → b = a) → (H a ≠ none → K.lookup a = none) →
      codeAny (model P w) callerA (.call (.ref fa) ⟨[.ref a], []⟩) (fun r s' => r = .ok (.ret (.bool true)) ∧ OldK s₁.heap s'.heap ∧ s'.os = s₁.os ∧ AllBare s'.gens) s₁ := by
    intro H hO hS hok hA hK
    have base_of : ∀ {b : Addr} {o : Obj}, s₁.heap.get? b = some o → H b = none → (hidT s₁.heap H).get? b = some o := fun e n => hidT_get e n
    have noA : ∀ {b : Addr} {o : Obj} {es : Array DictEntry} {ep : Nat}, s₁.heap.get? b = some o → o.data = .dict es ep → H b = none := fun {b o es ep} e d => by
      cases q : H b with
      | none => rfl
      | some u =>
        have e' : b = a := hA b (by rw [q]; simp)
        subst e'
        rw [ha] at e; cases e
        have d' : Data.seq vs.toArray _ = Data.dict es ep := d
        cases d'
    have nsK : ∀ {b : Addr} {m : Str → Option Value}, s₁.heap.Ns b m → (hidT s₁.heap H).Ns b m := fun {b m} ⟨o, es, ep, e, d, r⟩ => ⟨o, es, ep, base_of e (noA e d), d, r⟩
    have hKb : K.In (hidT s₁.heap H) := fun b o e => base_of (KX b o e) (by
      cases q : H b with
      | none => rfl
      | some u =>
        have e' : b = a := hA b (by rw [q]; simp)
        subst e'
        rw [hK (by rw [q]; simp)] at e; cases e)
    have hM : Mod K mg (hidT s₁.heap H) := ⟨hKb, nsK hns, ⟨mb, nsK hb, hbb⟩, let ⟨mc, h1, h2⟩ := hlim; ⟨mc, nsK h1, h2⟩⟩
    have e0 : Env0 P w K mg (hidT s₁.heap H) callerA [] s₁ H := ⟨rfl, hM, fun b o e => of_hidT e, Nat.le_of_eq (hidT_size _ _), trivial, fun b hb => absurd (show b ∈ ([] : List Addr) from hb) (by simp), hok, .of_eq hg⟩
    refine codeAny_mono ((F _ hKb (nsK hns)).run callerA [] s₁ H ⟨[.ref a], []⟩ [.ref a] [.ref a] _ _ hr e0 (hbind s₁ (.ref a)) (.cons rfl .nil) (hsp H hO hS)) fun r s' h => ?_
    cases r with
    | error e => exact (hCX H e s' h).elim
    | ok fl =>
      cases fl with
      | next => exact False.elim h
      | brk => exact False.elim h
      | cont => exact False.elim h
      | ret u =>
        obtain ⟨v, H', os, bare, un, hok', r', q⟩ := h
        have q' : v = .bl true := q
        subst q'
        obtain rfl : u = Value.bool true := r'
        refine ⟨rfl, OldK.of_keep fun b o e => ?_, os, bare⟩
        cases q : H b with
        | none => exact un.keep b o e q (by intro z; exact absurd (show b ∈ ([] : List Addr) from z) (by simp)) (by simp)
        | some u =>
          rcases hO b with z | ⟨ob, xs, z⟩
          · rw [q] at z; cases z
          · have z2 := un.frzs b ob _ z
            obtain ⟨e1, _⟩ := hok b _ z
            obtain ⟨e2, _⟩ := hok' b _ z2
            rw [e] at e1; cases e1
            exact e2
  cases hk : K.lookup a with
  | some o =>
    -- the script is one of the module's own objects
    have e := KX a o hk
    rw [ha] at e
    cases e
    refine core (fun _ => none) (fun _ => .inl rfl) (.inr ⟨_, vs.toArray, _, hk, rfl, rfl, rfl, by rw [List.size_toArray, lenV]; exact hl, by simpa using rv⟩) (fun b u z => by have z' : (none : Option HO) = some u := z; cases z') (fun b z => absurd rfl z) fun z => absurd rfl z
  | none =>
    refine core (fun b => if b = a then some (.frz { cls := .type "list", data := .seq vs.toArray } (.lst (ns.map V.int))) else none) (fun b => ?_) (.inl (.inr ⟨{ cls := .type "list", data := .seq vs.toArray }, if_pos rfl⟩)) (fun b u z => ?_) (fun b z => ?_) fun _ => hk
    · by_cases hb : b = a
      · exact .inr ⟨_, _, if_pos hb⟩
      · exact .inl (if_neg hb)
    · by_cases hb : b = a
      · have z' := (if_pos hb).symm.trans z
        cases z'
        subst hb
        exact ⟨ha, by rw [List.length_map]; exact hl, vs, _, rv, ha⟩
      · have z' := (if_neg hb).symm.trans z
        cases z'
    · by_cases hb : b = a
      · exact hb
      · exact absurd (if_neg hb) z
end L2

namespace L2
open PySem PySem.Spec PyProof.Rows

abbrev KOf {K : PySem.W.Frag} {h : Heap} (_ : K.In h) : PySem.W.Frag := K

/-- the goal that k_head leaves (case hc), from the law's promise. F gives the function object fd (K's own) once, then the promise over every base -/
theorem walk_of {l : PySem.W.OpenLaw} {n k : Nat} {q : Program} {loose : List Str} {XP : (Str → Option Value) → Heap → Prop} {YP : World → Heap → Prop} {d : DefRec} {K : Params → PySem.W.Frag} {CX : World → CXT} {sp : World → Sp} {x : Str}
    (hn : l.most = some n) (hn2 : n ≤ sizeLine) (hdf : d.params.defaults = []) (hr : Room k callerA)
    (hY : ∀ (w : World) (h : Heap), YP w h → (K w.params).In h)
    (F : ∀ (w : World) (mg : Str → Option Value) (fa : Addr) (h : Heap), (K w.params).In h → h.Ns mainGlobals mg → mg d.name = some (.ref fa) →
      ∃ fd : FuncData, (∀ (s : Shared) (u : Value), BindsTo s fd ⟨[u], []⟩ [(x, u)]) ∧
        ∀ base : Heap, (K w.params).In base → base.Ns mainGlobals mg → FnOk l.prog w (K w.params) mg base (CX w) k fa fd [x] (sp w))
    (hsp : ∀ (w : World) (H : Hp) (a : Addr) (ns : List Int), ns.length ≤ n → Only H → SqL (K w.params) H a (ns.map V.int) → sp w [.ref a] H (fun v _ => v = .bl true) fun _ _ _ => False)
    (hCX : ∀ (w : World) (H : Hp) (s : Shared) (e : Value) (s' : Shared), CX w [] H s (fun _ _ _ => False) e s' → False) :
    PySem.W.WalkO q loose XP YP l.row.toRowW d [] (fun f vs => PySem.call f vs) := by
  refine Att.attach_call hn hdf fun w s₀ s₁ mg mb fa o pm cd doc a vs ns G Y ho hd hcd hmg hobj hints hlen hg => ?_
  have KX := hY w _ Y
  obtain ⟨fd, hb, hF⟩ := F w mg fa _ KX G.T.g hmg
  exact law_call KX G.T.g G.T.b G.T.builtins G.T.nolimit hg hobj hints (Nat.le_trans hlen hn2) hr hF hb (fun H hO hS => hsp w H a ns hlen hO hS) fun H e s' => hCX w H s₁ e s'
/-- the same where the promise hangs on the written part alone: (sp := My.sp_law), no hole under a binder -/
theorem walk_ofK {l : PySem.W.OpenLaw} {n k : Nat} {q : Program} {loose : List Str} {XP : (Str → Option Value) → Heap → Prop} {YP : World → Heap → Prop} {d : DefRec} {K : Params → PySem.W.Frag} {CX : CXT} {sp : PySem.W.Frag → Sp} {x : Str}
    (hn : l.most = some n) (hn2 : n ≤ sizeLine) (hdf : d.params.defaults = []) (hr : Room k callerA)
    (hY : ∀ (w : World) (h : Heap), YP w h → (K w.params).In h)
    (F : ∀ (w : World) (mg : Str → Option Value) (fa : Addr) (h : Heap), (K w.params).In h → h.Ns mainGlobals mg → mg d.name = some (.ref fa) →
      ∃ fd : FuncData, (∀ (s : Shared) (u : Value), BindsTo s fd ⟨[u], []⟩ [(x, u)]) ∧
        ∀ base : Heap, (K w.params).In base → base.Ns mainGlobals mg → FnOk l.prog w (K w.params) mg base CX k fa fd [x] (sp (K w.params)))
    (hsp : ∀ (K : PySem.W.Frag) (H : Hp) (a : Addr) (ns : List Int), ns.length ≤ n → Only H → SqL K H a (ns.map V.int) → sp K [.ref a] H (fun v _ => v = .bl true) fun _ _ _ => False)
    (hCX : ∀ (H : Hp) (s : Shared) (e : Value) (s' : Shared), CX [] H s (fun _ _ _ => False) e s' → False) :
    PySem.W.WalkO q loose XP YP l.row.toRowW d [] (fun f vs => PySem.call f vs) :=
  walk_of (K := K) (CX := fun _ => CX) (sp := fun w => sp (K w.params)) hn hn2 hdf hr hY F (fun w H a ns h1 h2 h3 => hsp (K w.params) H a ns h1 h2 h3) fun _ H s e s' => hCX H s e s'
end L2

/- THE LAST THEOREM (shape; LID, My.* are yours):
   My.Adr: a structure of the addresses that your layer names (classes, functions); My.Txt K t: a structure (Prop) of the equations over K;
   My.txt_mk : {K} {implicit addresses ..} (e1 : nsIn K mainGlobals "law" = some (some (.ref f))) (e2 : K.lookup f = some ⟨oc, od, .func (fnOf "law" "law" params body scope dV kV doc pm an cdv ct), sl⟩) (e3 : codeIn K cdv "law" = true) .. : ∃ t, My.Txt K t

set_option maxRecDepth 100000 in
set_option maxHeartbeats 0 in
theorem PySem.Challenge.cw_LID_holds : PySem.Challenge.rw_LID.Holds := by
  w_on; o_law; k_head; (case hw => w_witness2)
  k_fill
  refine L2.walk_of (l := PySem.Challenge.rw_LID) (n := 63) (k := 40) (x := "script") (CX := fun w => ..) (sp := fun _ => My.sp_law) rfl (by decide) rfl ⟨rfl, by decide, by decide⟩ (fun w h Y => PySem.W.kIn_of Y) ?F ?S ?C
  case F =>
    intro w mg fa h KX G hmg
    have T : ∃ t, My.Txt (L2.KOf KX) t := by
      dsimp only [L2.KOf]                          -- K must stand as «<heap const> w.params» for k_is
      refine' My.txt_mk ?e1 ?e2 ?e3 ..
      (case e1 => PySem.W.k_is)                    -- in the order: a name -> its address -> its object -> its parts
      (case e2 => PySem.W.k_is)
      ..
    obtain ⟨t, T⟩ := T
    have e0 := hmg.symm.trans (PySem.W.mg_of KX G T.law)
    cases e0                                       -- fa is the law's own address
    exact ⟨_, fun s u => .of_eq rfl, fun base kb nb => My.law_fn T kb nb⟩     -- if «.of_eq rfl» comes too early: refine' ⟨_, ?b, fun base kb nb => My.law_fn T kb nb⟩; exact fun s u => .of_eq rfl
  case S => exact fun w H a ns hl hO hS => ..
  case C => exact ..
(the tactic k_is has no namespace: write k_is) -/

/-! SHORT WORDS over the layer: a def of the text, its body, what a loop and a test want. -/
namespace L2
open PySem PySem.Spec PyProof.Rows

/-! ### the text by places -/
/-- the j-th statement of a class's body -/
def inClass (s : Stmt) (j : Nat) : Stmt := match s with
  | .ClassDef _ _ _ body _ _ _ _ _ _ _ => body.getD j (.Pass ⟨0, 0, 0, 0⟩)
  | _ => .Pass ⟨0, 0, 0, 0⟩
def defArgs (s : Stmt) : Arguments := match s with
  | .FunctionDef _ a _ _ _ _ _ _ _ _ => a
  | _ => { posonlyargs := [], args := [], vararg := none, kwonlyargs := [], kw_defaults := [], kwarg := none, defaults := [] }
def defBody (s : Stmt) : List Stmt := match s with
  | .FunctionDef _ _ b _ _ _ _ _ _ _ => b
  | _ => []
def defScope (s : Stmt) : Scope := match s with
  | .FunctionDef _ _ _ _ _ _ sc _ _ _ => sc
  | _ => { kind := .function, names := [], isGenerator := false, isCoroutine := false }

/-! ### no exception leaves a def -/
abbrev CX0 : CXT := fun _ _ _ _ _ _ => False
abbrev E0 : XK := fun _ _ _ => False
theorem pass0 {X : Cx} : Passes CX0 X E0 := fun _ _ _ _ _ _ _ h => h.elim

/-! ### a def (or method) of the text as it stands behind the top -/
structure Fun (K : PySem.W.Frag) (x qual : Str) (st : Stmt) (f : Addr) (fd : FuncData) : Prop where
  ex : ∃ (oc : Value) (od : Option Addr) (kV doc pm : Value) (an : Option Addr) (cdv ct : Value) (osl : Array (Option Value)),
    fd = PySem.W.fnOf x qual (defArgs st) (defBody st) (defScope st) .none kV doc pm an cdv ct ∧ K.lookup f = some ⟨oc, od, .func fd, osl⟩ ∧ PySem.W.codeIn K cdv qual = true
  kp : PySem.W.keepIn K (.ref f) = true
section
variable {P : Program} {w : World} {K : PySem.W.Frag} {mg : Str → Option Value} {base : Heap}
/-- THE RULE for a def: its body as a term of rules, and the reading of that term -/
theorem Fun.ok {x qual : Str} {st : Stmt} {f : Addr} {fd : FuncData} {N ps : List Str} {k : Nat} {sp : Sp} (F : Fun K x qual st f fd) (S : FnScope N ps (defScope st)) (len : ∀ vs H Q E, sp vs H Q E → vs.length = ps.length)
    (hbody : ∀ (cdv : Value) (A : Around) (outer : List Env) (s : Shared) (H : Hp) (vs : List V) (Q : VK) (E : XK), Room k (A.deeper (envOfC qual (defScope st) s.heap.objs.size f cdv)) → sp vs H Q E →
      ∃ t, PSs (cxOf CX0 P w K mg base N qual (defScope st) f cdv A outer s H E).nox (defBody st) t ∧ t { nx := fun _ H' => Q .non H', rt := Q } (start N vs) H) : FnOk P w K mg base CX0 (k + 1) f fd ps sp := by
  obtain ⟨oc, od, kV, doc, pm, an, cdv, ct, osl, rfl, lk, hcd⟩ := F.ex
  refine fn_of lk hcd S len fun A outer s H vs Q E hr hsp => ?_
  obtain ⟨t, h, q⟩ := hbody cdv A outer s H vs Q E hr hsp
  exact ⟨t, h.nox, q⟩
/-- how its arguments bind (no defaults): h is «fun _ _ _ _ _ _ us hl => match us, hl with | [_, _], _ => rfl», one _ a parameter -/
theorem Fun.binds {x qual : Str} {st : Stmt} {f : Addr} {fd : FuncData} {ps : List Str} (F : Fun K x qual st f fd)
    (h : ∀ (kV doc pm : Value) (an : Option Addr) (cdv ct : Value) (us : List Value), us.length = ps.length → bindArgs (PySem.W.fnOf x qual (defArgs st) (defBody st) (defScope st) .none kV doc pm an cdv ct) ⟨us, []⟩ = pure (ps.zip us)) : Binds K fd ps [] := by
  obtain ⟨oc, od, kV, doc, pm, an, cdv, ct, osl, rfl, lk, hcd⟩ := F.ex
  exact .all (h kV doc pm an cdv ct)
theorem fun_mk {x qual : Str} {st : Stmt} {f : Addr} {oc : Value} {od an : Option Addr} {osl : Array (Option Value)} {kV doc pm cdv ct : Value} (l : K.lookup f = some ⟨oc, od, .func (PySem.W.fnOf x qual (defArgs st) (defBody st) (defScope st) .none kV doc pm an cdv ct), osl⟩)
    (c : PySem.W.codeIn K cdv qual = true) (k : PySem.W.keepIn K (.ref f) = true) : Fun K x qual st f (PySem.W.fnOf x qual (defArgs st) (defBody st) (defScope st) .none kV doc pm an cdv ct) := ⟨⟨oc, od, kV, doc, pm, an, cdv, ct, osl, rfl, l, c⟩, k⟩
end
theorem hu_of {A : Around} {k : Nat} (hr : Room k A) : A.units + 1 < cLine := Nat.lt_of_le_of_lt (Nat.add_le_add_left (by decide : 1 ≤ 64) _) hr.units
theorem small1000 {n : Nat} (h : n ≤ 1000) : n < sizeLine := Nat.lt_of_le_of_lt h (by decide)

/-! ### expressions in short: the name that stands in the i-th slot -/
section
variable {X : Cx}
theorem pv (i : Nat) {x : Str} {pos : Pos} (hN : X.N[i]? = some x := by rfl) (hv : Vis X.env.scope x := by first | exact Or.inl rfl | exact Or.inr (Or.inl rfl) | exact Or.inr (Or.inr rfl)) (hd : (x == ("__debug__" : Str)) = false := by decide)
    (hcd : (x == ("__classdict__" : Str)) = false := by decide) : PE X (.Name x pos) (tVar i) := pe_var hN hv hd hcd
end

/-! ### tests -/
theorem iteF {A B : Prop} (h : B) : if false = true then A else B := by
  rw [if_neg Bool.false_ne_true]
  exact h
theorem iteT {A B : Prop} (h : A) : if true = true then A else B := by
  rw [if_pos rfl]
  exact h
theorem ite2 {c A B : Prop} [Decidable c] (h1 : c → A) (h2 : ¬ c → B) : if c then A else B := by
  by_cases h : c
  · rw [if_pos h]
    exact h1 h
  · rw [if_neg h]
    exact h2 h
theorem iteNS {c A B : Prop} [Decidable c] (hc : c) (h : B) : if (!decide c) = true then A else B := by
  rw [decide_eq_true hc]
  exact iteF h

/-! ### heaps -/
/-- all that was tracked is as it was -/
def Same (H H' : Hp) : Prop := ∀ b o, H b = some o → H' b = some o
theorem Same.refl (H : Hp) : Same H H := fun _ _ h => h
theorem Same.trans {H H1 H2 : Hp} (a : Same H H1) (b : Same H1 H2) : Same H H2 := fun c o h => b c o (a c o h)
theorem Same.free {H H' : Hp} (e : Same H H') {l : Addr} (h : H' l = Option.none) : H l = Option.none := by
  cases q : H l with
  | none => rfl
  | some o =>
    rw [e l o q] at h
    cases h
theorem Same.seq {K : PySem.W.Frag} {H H' : Hp} {a : Addr} {xs : List V} (e : Same H H') (h : SqL K H a xs) : SqL K H' a xs := by
  rcases h with (h | ⟨o, h⟩) | h
  · exact .inl (.inl (e _ _ h))
  · exact .inl (.inr ⟨o, e _ _ h⟩)
  · exact .inr h

end L2

set_option maxHeartbeats 4000000
namespace Bk
open PySem PySem.W PySem.Spec PySem.Calls PyProof.Rows Builtin Builtin.ObjectAttr Builtin.Getset_descriptor
/-- what is asked of an own exception class, all of it read off the text -/
structure ExcK (K : Frag) (C : Addr) : Prop where
  cls : (clsIn K C).isSome = true
  ga : findIn K (.ref C) "__getattribute__" = some (some (.builtin "BaseException.__getattribute__"))
  gt : findIn K (.ref C) "__getattr__" = some none
  at_ : findIn K (.ref C) "__class__" = some (some (.builtin "object.__class__"))
  get : specialIn K (.builtin "object.__class__") "__get__" = some (some (.builtin "getset_descriptor.__get__"))
  tk : takesIn K (.builtin "object.__class__") = some true
  obj : mroIn K C (.type "object") = some true
  exc : mroIn K C (.type "BaseException") = some true
/-- an object of the class C -/
def OfCls (x C : Addr) (h : Heap) : Prop := ∃ o, h.get? x = some o ∧ o.cls = .ref C
theorem OfCls.ty {M : Model} {x C : Addr} {h : Heap} (p : OfCls x C h) : Looks M h (typeOf (.ref x)) (.ref C) := by
  obtain ⟨o, h1, h2⟩ := p
  rw [← h2]
  exact (Looks.ld h1).andThen .now
section
variable {prog : Program} {w : World} {A : Around} {E : Value → Shared → Prop} {s : Shared} {K : Frag} {x C : Addr}
theorem exc_get {tp : Value} {R : Result → Shared → Prop} (X : K.In s.heap) (p : OfCls x C s.heap) (e : ExcK K C) (h : R (.ok (.ret (.ref C))) s) :
    codeAny (model prog w) A (.call (.builtin "getset_descriptor.__get__") ⟨[.builtin "object.__class__", .ref x, tp], []⟩) R s := by
  obtain ⟨hh, g, dr, t, os⟩ := s
  have Ty := p.ty (M := model prog w)
  have Sub := looks_mroIn (M := model prog w) X e.obj
  refine codeAny_call_builtin
    KF.slot_gs.plain KF.entry_gs ?_
  refine KF.slot_gs.check _ _ _ _ _ _ _ _
    KF.type_class (KF.args_gs _ _ _) ?_
  unfold Builtin.«getset_descriptor.__get__»
  unfold descrGet
  rw [dga_obj]
  refine wpAny_bind (wpAny_pure ?_)
  unfold descrGetter
  unfold descrCheckInstance descrNameAndClass
  unfold isInstance
  simp only [KF.owner_class]
  repeat lk
  refine ⟨Code.quiet_builtin _ (by decide +kernel), ?_⟩
  refine codeAny_builtin KF.entry_class ?_
  unfold Builtin.«object.__class__»
  unfold shownTypeOf
  repeat lk
  exact h
/-- an own exception's class, asked of the exception -/
theorem exc_class {Q : Option Value → Shared → Prop} (e : ExcK K C) (X : K.In s.heap) (p : OfCls x C s.heap) (h : Q (some (.ref C)) { s with toks := s.toks + 1 }) : wpAny (model prog w) A (getAttr? (.ref x) "__class__") Q E s := by
  obtain ⟨hh, g, d, t, os⟩ := s
  have T0 := p.ty (M := model prog w)
  have T1 := looks_findIn (M := model prog w) X e.ga
  have T2 := looks_findIn (M := model prog w) X e.gt
  have G : Looks (model prog w) hh (Builtin.ObjectAttr.getOf (some (.builtin "object.__class__"))) (some (.builtin "getset_descriptor.__get__")) := looks_specialIn X e.get
  have D : Looks (model prog w) hh (Builtin.ObjectAttr.dataDescriptor? (some (.builtin "object.__class__")) (some (.builtin "getset_descriptor.__get__"))) (some (.builtin "getset_descriptor.__get__", .builtin "object.__class__")) :=
    (looks_takesIn X e.tk).andThen .now
  have T3 : Looks (model prog w) hh (Builtin.ObjectAttr.find (.ref x) (.ref C) (Str.ofString "__class__")) (.bind (.builtin "getset_descriptor.__get__") (.builtin "object.__class__")) :=
    (looks_findIn X e.at_).andThen (G.andThen (D.andThen (Looks.tag .now)))
  have T4 := looks_mroIn (M := model prog w) X e.exc
  have n2 : (Value.builtin "BaseException.__getattribute__" == Value.builtin "object.__getattribute__") = false := by decide +kernel
  unfold getAttr? getAttrBy? getAttrBy
  refine wpAny_bind (wpAny_mkText (wpAny_bind (wpAny_attempt (wpAny_holding ?_))))
  refine wpAny_bind (T0.at (wpAny_bind (T1.at ?_)))
  dsimp only
  rw [n2, Bool.and_false, if_neg (by decide)]
  unfold getAttrByItsOwn
  have f3 := PySem.F.attr_ValueError.ga.bind (.ref x)
  refine wpAny_bind ?_
  unfold hookBefore
  rw [if_pos (show onTheHeap (Value.ref C) = true from rfl)]
  refine T2.at (wpAny_bind (wpAny_attempt (wpAny_holding ?_)))
  unfold callGetattribute
  rw [if_neg (by decide)]
  unfold boundAndCalled
  rw [f3]
  refine wpAny_bind (wpAny_pure ?_)
  refine wpAny_call (codeAny_call_builtin PySem.F.attr_ValueError.ga.plain F.entry_bexc_ga ?_)
  have kd : builtinKind "BaseException.__getattribute__" = some .slot := by decide +kernel
  have sp : splitId "BaseException.__getattribute__" = some ("BaseException", "__getattribute__") := by decide +kernel
  have ha := F.args_bexc_ga (.ref x) (.str (Str.ofString "__class__") t)
  simp only [checkBuiltinCall, kd, sp]
  have LI : Looks (model prog w) hh (isInstance (.ref x) (.type "BaseException")) true := T0.andThen T4
  refine wpAny_bind (LI.at ?_)
  simp only [Bool.not_true, Bool.false_eq_true, if_false]
  repeat (any_goals (first | assumption | wp_step))
  obtain ⟨o, po, pc⟩ := p
  refine wpAny_loadPart po (wpAny_pure ?_)
  rw [pc]
  refine wpAny_bind (T3.at ?_)
  dsimp only
  unfold Builtin.ObjectAttr.bindTo
  repeat (any_goals (first | assumption | wp_step))
  exact exc_get (s := ⟨hh, g, d, t + 1, os⟩) X ⟨o, po, pc⟩ e (wpAny_pure (wpAny_pure (wpAny_pure h)))
end
theorem exc_lookup {K : Frag} {C : Addr} (h : (clsIn K C).isSome = true) : ∃ c d cd sl, K.lookup C = some ⟨c, d, .cls cd, sl⟩ := by
  unfold clsIn at h
  split at h
  · rename_i c d cd sl e
    exact ⟨c, d, cd, sl, e⟩
  · cases h
theorem kitx_exc {K : Frag} {C x : Addr} (e : ExcK K C) : KitX K (.ref x) (.ref C) (OfCls x C) where
  ty := fun _ _ _ p => p.ty
  it := fun M h X _ => by
    obtain ⟨c, d, cd, sl, q⟩ := exc_lookup e.cls
    intro A Q E s k z
    unfold isType loadHead
    exact wpAny_bind (wpAny_loadPart (k _ _ (X _ _ q)) (wpAny_pure z))
  ne := fun h tp dd its n sl X htp => by
    obtain ⟨c, d, cd, sl', q⟩ := exc_lookup e.cls
    refine Bool.eq_false_iff.mpr fun z => ?_
    have e2 : C = tp := Value.ref.inj (beq_iff_eq.mp z)
    rw [← e2, X _ _ q] at htp
    cases htp
  ca := fun X p k => exc_class e X p k
end Bk

/-! ## EXCEPTIONS over the hand layer: a def that raises, a try that catches -/
namespace L2
open PySem PySem.Spec PyProof.Rows

/-- behind an exception: B is what surely stayed, h the heap; s, H ahead of it; the frames l may have other slots -/
structure Aft (P : Program) (w : World) (l : List Env) (H H' : Hp) (s : Shared) (B h : Heap) : Prop where
  stays : B.StaysIn h
  hokB : HOk P w H' B
  kept : ∀ b o, s.heap.get? b = some o → H b = none → b ∉ frs l → B.get? b = some o
  thr : ∀ b o, s.heap.get? b = some o → b ∉ frs l → ∃ o', B.get? b = some o'
  slot : ∀ b o, s.heap.get? b = some o → b ∈ frs l → ∃ sl, h.get? b = some { o with slots := sl }
  free : ∀ b o, s.heap.get? b = some o → H b = none → H' b = none
  tups : ∀ b xs, H b = some (.tup xs) → H' b = some (.tup xs)
  frzs : ∀ b o u, H b = some (.frz o u) → H' b = some (.frz o u)
  tbls : ∀ b ps, H b = some (.tbl ps) → ∃ more, H' b = some (.tbl (ps ++ more))
section
variable {P : Program} {w : World} {l : List Env} {H H' : Hp} {s : Shared} {B h h' : Heap}
theorem Aft.un (a : Aft P w l H H' s B h) : Un (frs l) [] H H' s.heap h where
  keep := fun b o q n hb _ => a.stays b o (a.kept b o q n hb)
  slot := fun b o q _ hb _ => a.slot b o q hb
  free := fun b o q n _ => a.free b o q n
  there := fun b o q _ => by
    by_cases hb : b ∈ frs l
    · obtain ⟨sl, e⟩ := a.slot b o q hb
      exact ⟨_, e⟩
    · obtain ⟨o', e⟩ := a.thr b o q hb
      exact ⟨o', a.stays b o' e⟩
  tups := a.tups
  frzs := a.frzs
  tbls := a.tbls
theorem Aft.hok (a : Aft P w l H H' s B h) : HOk P w H' h := a.hokB.kept fun b o e => a.stays b o e
/-- a further step of the exception's machinery -/
theorem Aft.next (a : Aft P w l H H' s B h) (k : B.StaysIn h') (hl : h.FunFrames B l) (u : h.UpToSlots h') : Aft P w l H H' s B h' where
  stays := k
  hokB := a.hokB
  kept := a.kept
  thr := a.thr
  slot := fun b o q hb => by
    obtain ⟨sl, e⟩ := a.slot b o q hb
    obtain ⟨_, o', e', nf⟩ := hl.mem hb
    rw [e] at e'
    cases e'
    obtain ⟨sl', z⟩ := u b _ e nf
    exact ⟨sl', z⟩
  free := a.free
  tups := a.tups
  frzs := a.frzs
  tbls := a.tbls
end

/-- an exception has left the code that ran from s, H: its object, its class; what it wrote (H') stands -/
structure Flew (P : Program) (w : World) (l : List Env) (H H' : Hp) (s s' : Shared) (e : Addr) (cls : Value) : Prop where
  os : s'.os = s.os
  bare : AllBare s'.gens
  fly : ∃ B a0, Heap.FlyingW B l e cls a0 s'.heap ∧ Aft P w l H H' s B s'.heap
  new : s.heap.get? e = none
  untr : H' e = none
/-- how an exception of an own class lies behind a call -/
def CXb (P : Program) (w : World) : CXT := fun outer H s E x s' => ∃ e C H', x = .ref e ∧ Flew P w outer H H' s s' e (.ref C) ∧ E (.ref C) none H'

theorem ObjOk.some {P : Program} {w : World} {H : Hp} {h : Heap} {a : Addr} {o : HO} (x : ObjOk P w H h a o) : ∃ u, h.get? a = some u := by
  cases o with
  | lst xs => obtain ⟨_, _, _, _, e⟩ := x; exact ⟨_, e⟩
  | tup xs => obtain ⟨_, _, _, ob, e, _⟩ := x; exact ⟨_, e⟩
  | dK kvs => obtain ⟨_, _, _, _, o, _, _, e, _⟩ := x; exact ⟨_, e⟩
  | dT kvs => obtain ⟨_, _, _, _, o, _, _, e, _⟩ := x; exact ⟨_, e⟩
  | set S n => obtain ⟨o, _, _, _, e, _⟩ := x; exact ⟨_, e⟩
  | ins C dx fs => obtain ⟨_, _, _, e, _⟩ := x; exact ⟨_, e⟩
  | own y => exact x
  | xd fs => obtain ⟨_, ⟨_, _, _, e, _⟩, _⟩ := x; exact ⟨_, e⟩
  | rng lo hi => obtain ⟨_, _, _, e⟩ := x; exact ⟨_, e⟩
  | frz ob u => obtain ⟨e, _⟩ := x; exact ⟨_, e⟩
  | tbl ps => exact ⟨_, x⟩
  | met f y => exact ⟨_, x⟩
  | ext φ => obtain ⟨_, e, _⟩ := x; exact e

section
variable {P : Program} {w : World} {K : PySem.W.Frag} {mg : Str → Option Value} {base : Heap} {N : List Str} {qual : Str} {scope : Scope} {f : Addr} {cd : Value} {A : Around} {outer : List Env} {s : Shared} {H : Hp} {E : XK}

/-- a raise in a def's body, in this context, reaches the wish E -/
def Raises (X : Cx) (E : XK) : Prop := ∀ (pins : List (Addr × Obj)) (σ : St) (H : Hp) (s : Shared) (e C : Addr) (args : List Value) (h' : Heap), Inv X pins σ H s → Heap.MadeExcOf s.heap h' e (.ref C) args → E (.ref C) none H → X.xe (.ref e) { s with heap := h' }

theorem mem_frs {env : Env} {l : List Env} {b : Addr} (h : b ∈ frs (env :: l)) : env.frame = some b ∨ b ∈ frs l := by
  obtain ⟨v, hv, hf⟩ := List.mem_filterMap.mp h
  rcases List.mem_cons.mp hv with rfl | hv
  · exact .inl hf
  · exact .inr (List.mem_filterMap.mpr ⟨v, hv, hf⟩)
theorem frs_mem {env : Env} {l : List Env} {b : Addr} (h : b ∈ frs l) : b ∈ frs (env :: l) := by
  obtain ⟨v, hv, hf⟩ := List.mem_filterMap.mp h
  exact List.mem_filterMap.mpr ⟨v, List.mem_cons_of_mem _ hv, hf⟩

theorem raises_fn : Raises (cxOf (CXb P w) P w K mg base N qual scope f cd A outer s H E) E := by
  intro pins σ H1 s1 e C args h' I m q
  have stk : (cxOf (CXb P w) P w K mg base N qual scope f cd A outer s H E).stack = envOfC qual scope s.heap.objs.size f cd :: outer := rfl
  have st := I.stack
  rw [stk] at st
  have stF := I.stkFree
  rw [stk] at stF
  have old : ∀ b o, s.heap.get? b = some o → b ∉ frs outer → b ∉ frs (envOfC qual scope s.heap.objs.size f cd :: outer) := fun b o e1 n hm => by
    rcases mem_frs hm with z | z
    · have z' : some s.heap.objs.size = some b := z
      cases z'
      exact absurd (Heap.lt_size e1) (Nat.lt_irrefl _)
    · exact n z
  have hin : ∀ env ∈ (envOfC qual scope s.heap.objs.size f cd :: outer), ∀ a, env.frame = some a → a ∈ frs (envOfC qual scope s.heap.objs.size f cd :: outer) := fun env he a ha => List.mem_filterMap.mpr ⟨env, he, ha⟩
  refine wpAny_leaves_madeW (base := PySem.W.hideAll s1.heap (frs (envOfC qual scope s.heap.objs.size f cd :: outer))) (h := s1.heap) I.ok.frames rfl (fun b o z => PySem.W.of_hideAll _ z) (PySem.W.funFrames_hide st hin) m fun h3 t fl _ _ up => ?_
  have k3 : (PySem.W.hideAll s1.heap (frs (envOfC qual scope s.heap.objs.size f cd :: outer))).StaysIn h3 := fl.1
  refine ⟨e, C, H1, rfl, ⟨I.os, I.bare, ⟨_, _, fl, ⟨k3, fun a u z => ?_, fun b o e1 n nf => ?_, fun b o e1 nf => ?_, fun b o e1 hb => ?_, fun b o e1 n => I.base.free b o e1 n (fun z => nomatch z), I.base.tups, I.base.frzs, I.base.tbls⟩⟩, ?_, ?_⟩, q⟩
  · refine (I.hok a u z).stay (fun b v hb e2 => PySem.W.hideAll_get _ e2 fun hm => ?_) (fun _ z => z) fun _ _ z => z
    have hn := stF b hm
    rcases hb with rfl | hb
    · rw [hn] at z; cases z
    · rw [hn] at hb; cases hb
  · exact PySem.W.hideAll_get _ (I.base.keep b o e1 n nf (fun z => nomatch z)) (old b o e1 nf)
  · obtain ⟨o', e2⟩ := I.base.there b o e1 (fun z => nomatch z)
    exact ⟨o', PySem.W.hideAll_get _ e2 (old b o e1 nf)⟩
  · obtain ⟨sl, e2⟩ := I.base.slot b o e1 (I.ok.frf b hb) hb (fun z => nomatch z)
    obtain ⟨_, ob, e3, nf⟩ := st.mem (frs_mem hb)
    rw [e2] at e3
    cases e3
    obtain ⟨sl', e4⟩ := up b _ (m.keeps b _ e2) nf
    exact ⟨sl', e4⟩
  · cases z : s.heap.get? e with
    | none => rfl
    | some o =>
      obtain ⟨o', e2⟩ := I.base.there e o z (fun z => nomatch z)
      rw [m.new] at e2; cases e2
  · cases z : H1 e with
    | none => rfl
    | some o =>
      obtain ⟨u, e2⟩ := (I.hok e o z).some
      rw [m.new] at e2; cases e2

/-- an exception of a callee goes on through a def's body -/
theorem passes_fn : Passes (CXb P w) (cxOf (CXb P w) P w K mg base N qual scope f cd A outer s H E) E := by
  intro pins σ H1 s1 x s2 I h
  obtain ⟨e, C, H2, rfl, F, q⟩ := h
  obtain ⟨B, a0, fl, a⟩ := F.fly
  have stk : (cxOf (CXb P w) P w K mg base N qual scope f cd A outer s H E).stack = envOfC qual scope s.heap.objs.size f cd :: outer := rfl
  rw [stk] at fl a
  have old : ∀ b o, s.heap.get? b = some o → b ∉ frs outer → b ∉ frs (envOfC qual scope s.heap.objs.size f cd :: outer) := fun b o e1 n hm => by
    rcases mem_frs hm with z | z
    · have z' : some s.heap.objs.size = some b := z
      cases z'
      exact absurd (Heap.lt_size e1) (Nat.lt_irrefl _)
    · exact n z
  refine wpAny_leaves_onW (base := B) I.ok.frames rfl fl fun h3 fl3 up => ?_
  have a3 := a.next fl3.1 fl.2.2.1 up
  refine ⟨e, C, H2, rfl, ⟨F.os.trans I.os, F.bare, ⟨B, a0, fl3, ⟨fl3.1, a.hokB, fun b o e1 n nf => ?_, fun b o e1 nf => ?_, fun b o e1 hb => ?_, fun b o e1 n => ?_, fun b xs z => a.tups _ _ (I.base.tups b xs z), fun b o u z => a.frzs _ _ _ (I.base.frzs b o u z), fun b ps z => ?_⟩⟩, ?_, F.untr⟩, q⟩
  · exact a.kept b o (I.base.keep b o e1 n nf (fun z => nomatch z)) (I.base.free b o e1 n (fun z => nomatch z)) (old b o e1 nf)
  · obtain ⟨o', e2⟩ := I.base.there b o e1 (fun z => nomatch z)
    exact a.thr b o' e2 (old b o e1 nf)
  · obtain ⟨sl, e2⟩ := I.base.slot b o e1 (I.ok.frf b hb) hb (fun z => nomatch z)
    obtain ⟨sl', e3⟩ := a3.slot b _ e2 (frs_mem hb)
    exact ⟨sl', e3⟩
  · obtain ⟨o', e2⟩ := I.base.there b o e1 (fun z => nomatch z)
    exact a.free b o' e2 (I.base.free b o e1 n (fun z => nomatch z))
  · obtain ⟨m1, e1⟩ := I.base.tbls b ps z
    obtain ⟨m2, e2⟩ := a.tbls b _ e1
    exact ⟨m1 ++ m2, by rw [e2, Array.append_assoc]⟩
  · cases z : s.heap.get? e with
    | none => rfl
    | some o =>
      obtain ⟨o', e2⟩ := I.base.there e o z (fun z => nomatch z)
      rw [F.new] at e2; cases e2
end

/-- a def that raises nothing, where others may -/
theorem FnOk.any {P : Program} {w : World} {K : PySem.W.Frag} {mg : Str → Option Value} {base : Heap} {CX : CXT} {k : Nat} {f : Addr} {fd : FuncData} {ps : List Str} {sp : Sp} (F : FnOk P w K mg base CX0 k f fd ps sp) : FnOk P w K mg base CX k f fd ps sp :=
  ⟨F.len, fun A outer s H args us vs Q E hr he hb hv hs => codeAny_mono (F.run A outer s H args us vs Q E hr he hb hv hs) fun r s' q => by
    cases r with
    | error e => exact False.elim q
    | ok fl => cases fl <;> exact q⟩
/-- a def's body with raises in it -/
theorem Fun.okx {P : Program} {w : World} {K : PySem.W.Frag} {mg : Str → Option Value} {base : Heap} {x qual : Str} {st : Stmt} {f : Addr} {fd : FuncData} {N ps : List Str} {k : Nat} {sp : Sp} (F : Fun K x qual st f fd) (S : FnScope N ps (defScope st))
    (len : ∀ vs H Q E, sp vs H Q E → vs.length = ps.length)
    (hbody : ∀ (cdv : Value) (A : Around) (outer : List Env) (s : Shared) (H : Hp) (vs : List V) (Q : VK) (E : XK), Room k (A.deeper (envOfC qual (defScope st) s.heap.objs.size f cdv)) → sp vs H Q E →
      ∃ t, PSs (cxOf (CXb P w) P w K mg base N qual (defScope st) f cdv A outer s H E) (defBody st) t ∧ t { nx := fun _ H' => Q .non H', rt := Q } (start N vs) H) : FnOk P w K mg base (CXb P w) (k + 1) f fd ps sp := by
  obtain ⟨oc, od, kV, doc, pm, an, cdv, ct, osl, rfl, lk, hcd⟩ := F.ex
  exact fn_of lk hcd S len fun A outer s H vs Q E hr hsp => hbody cdv A outer s H vs Q E hr hsp

/-! ### raise C(..) -/
/-- the class C is an own exception class under ValueError, by one or more own classes -/
def tRaise (E : XK) (C : Addr) (t : TA) : TS := fun _ σ H => t σ H fun us H1 => us.length ≤ sizeLine ∧ E (.ref C) none H1
theorem exc_there {K : PySem.W.Frag} {C : Addr} {bmB : List Value} {newId : String} (q : PySem.W.excIn K C bmB newId = true) :
    ∃ bm N nm qn bs hd sn sub ab col dd k0 k1 k2 k3 k5, K.lookup C = some (excClassObj nm qn C N bs bm hd sn sub ab col dd k0 k1 k2 k3 k5 newId) ∧ PySem.W.tailIn K bmB bm = true ∧ PySem.W.nsOkIn K N = true ∧ PySem.W.nsIn K N "__init__" = some none := by
  unfold PySem.W.excIn at q
  split at q
  · rename_i dd cd sl ho
    split at q
    · rename_i C' bm k0 k1 k2 k3 n k5 hm hs
      simp only [Bool.and_eq_true, beq_iff_eq, Bool.not_eq_true'] at q
      obtain ⟨⟨⟨⟨⟨e1, e2⟩, e3⟩, e4⟩, e5⟩, e6⟩ := q
      subst e1 e2
      obtain ⟨nm, bs, mro, ns, qn, hd, sn, sub, ab, col, del⟩ := cd
      dsimp only at hm e3 e5 e6
      subst hm e3
      have es : sl = #[k0, k1, k2, k3, some (.builtin n), k5] := by
        rw [← Array.toList_inj, hs]
      subst es
      exact ⟨bm, ns, nm, qn, bs, hd, sn, sub, ab, col, dd, k0, k1, k2, k3, k5, ho, e4, e5, e6⟩
    · cases q
  · cases q
section
variable {X : Cx} {x : Str} {C : Addr} {np cpos pos : Pos} {e : Expr} {es : List Expr} {t : TA} {E : XK}
theorem tail_base {h : Heap} {bmB bm : List Value} (T : OwnTail h bmB bm) (hb : bmB.contains (.type "BaseException") = true) : bm.contains (.type "BaseException") = true := T.hasType hb
theorem ps_raise (R : Raises X E) (hc : X.calm = true) (hg : Gl X x) (hm : X.mg x = some (.ref C)) (q : PySem.W.excIn X.K C [.type "ValueError", .type "Exception", .type "BaseException", .type "object"] "ValueError.__new__" = true) (ha : PA X (e :: es) t)
    (hdb : (x == ("__debug__" : Str)) = false := by decide) (hpl : (backTo cpos (starEach (e :: es) X.env)).any (·.1) = false := by rfl)
    (he : starEach (e :: es) X.env = (false, eval e X.env) :: starEach es X.env := by rfl) :
    PS X (.Raise (some (.Call (.Name x np) (e :: es) [] cpos)) none pos) (tRaise E C t) := by
  intro pins s σ H D I h
  obtain ⟨bm, N, nm, qn, bs, hd, sn, sub, ab, col, dd, k0, k1, k2, k3, k5, lk, e4, e5, e6⟩ := exc_there q
  have T0 := PySem.W.tail_of_in I.kIn e4
  have hA := ha cpos pins s σ H _ I h
  rw [he] at hA
  refine wpAny_Raise_call_subU (C := C) (nm := nm) (q := qn) (N := N) (bs := bs) (bm := bm) (hdct := hd) (sn := sn) (sub := sub) (ab := ab) (col := col) (dd := dd) (k0 := k0) (k1 := k1) (k2 := k2) (k3 := k3) (k5 := k5) (mN := s.heap.nsMap N)
    PySem.F.excBase_ValueError (by decide +kernel) PySem.F.excBase_ValueError (T0.hasType (by decide +kernel)) (I.ok.hd hc) hpl (PySem.W.nsMap_none_of_in I.kIn e5 e6) (ld_glob I hg hm ⟨rfl, ?_⟩ hdb)
  rw [he]
  refine Calls.evalArgs_plain (thn hA fun us s2 ⟨vs, H2, I2, r2, z, q2⟩ => ?_)
  refine ⟨rfl, by rw [← r2.length]; exact z, I2.kIn _ _ lk, ?_, PySem.W.tail_of_in I2.kIn e4, fun h' ea m => R pins σ H2 s2 ea C us h' I2 m q2⟩
  have nn : s2.heap.Ns N (s2.heap.nsMap N) := .of_isNs (PySem.W.isNs_of_in I2.kIn e5)
  have eq : s2.heap.nsMap N = s.heap.nsMap N := by
    unfold PySem.W.nsOkIn at e5
    split at e5
    · rename_i lkN
      unfold Heap.nsMap
      rw [I2.kIn _ _ lkN, I.kIn _ _ lkN]
    · cases e5
  rw [← eq]
  exact nn
end
end L2

/-! ### what may raise, and try -/
namespace L2
open PySem PySem.Spec PyProof.Rows

/-- an exception in this body: it came out of a call that began with the names σ; what it wrote stands in H' -/
def XP (X : Cx) (pins : List (Addr × Obj)) (Dx : Value → St → Hp → Prop) (x : Value) (s' : Shared) : Prop :=
  ∃ e C σ H s H', x = .ref e ∧ Inv X pins σ H s ∧ Flew X.prog X.w X.stack H H' s s' e (.ref C) ∧ Dx (.ref C) σ H'
abbrev TEx := St → Hp → VK → (Value → Hp → Prop) → Prop
abbrev TSx := Ends → (Value → St → Hp → Prop) → St → Hp → Prop
def PEx (X : Cx) (e : Expr) (t : TEx) : Prop :=
  ∀ (pins : List (Addr × Obj)) (s : Shared) (σ : St) (H : Hp) (Q : VK) (Ex : Value → Hp → Prop), Inv X pins σ H s → t σ H Q Ex → wpAny (model X.prog X.w) X.A (eval e X.env) (EP X pins σ Q) (XP X pins fun C σ' H' => σ' = σ ∧ Ex C H') s
def PX (X : Cx) (st : Stmt) (t : TSx) : Prop :=
  ∀ (pins : List (Addr × Obj)) (s : Shared) (σ : St) (H : Hp) (D : Ends) (Dx : Value → St → Hp → Prop), Inv X pins σ H s → t D Dx σ H → wpAny (model X.prog X.w) X.A (exec st X.env) (SP X pins D) (XP X pins Dx) s
def PXs (X : Cx) (st : List Stmt) (t : TSx) : Prop :=
  ∀ (pins : List (Addr × Obj)) (s : Shared) (σ : St) (H : Hp) (D : Ends) (Dx : Value → St → Hp → Prop), Inv X pins σ H s → t D Dx σ H → wpAny (model X.prog X.w) X.A (execs st X.env) (SP X pins D) (XP X pins Dx) s
section
variable {X : Cx} {st : Stmt} {rest : List Stmt} {t u : TSx} {e : Expr} {te : TEx} {pos : Pos}
/-- what raises nothing -/
theorem px_of {ts : TS} (h : PS X.nox st ts) : PX X st (fun D _ σ H => ts D σ H) := fun pins s σ H D Dx I q =>
  wpAny_mono (h pins s σ H D (I.wish _) q) (fun _ _ z => z.unwish) fun _ _ z => False.elim z
def xSeq (t u : TSx) : TSx := fun D Dx σ H => t { D with nx := fun σ' H' => u D Dx σ' H' } Dx σ H
theorem pxs_cons (h1 : PX X st t) (h2 : PXs X rest u) : PXs X (st :: rest) (xSeq t u) := by
  intro pins s σ H D Dx I h
  refine wpAny_execs_cons (thn (h1 pins s σ H { D with nx := fun σ' H' => u D Dx σ' H' } Dx I h) fun f s1 q => ?_)
  cases f with
  | next =>
    obtain ⟨σ', H', I', q⟩ := q
    exact h2 pins s1 σ' H' D Dx I' q
  | ret v => exact q
  | brk => exact q
  | cont => exact q
theorem pxs_one (h1 : PX X st t) : PXs X [st] t := by
  intro pins s σ H D Dx I h
  refine wpAny_execs_cons (thn (h1 pins s σ H D Dx I h) fun f s1 q => ?_)
  cases f with
  | next => exact wpAny_execs_nil q
  | ret v => exact q
  | brk => exact q
  | cont => exact q
def xIf (c : TT) (t u : TSx) : TSx := fun D Dx σ H => c σ H fun b H1 => if b = true then t D Dx σ H1 else u D Dx σ H1
theorem px_if {c : Expr} {a b : List Stmt} {tc : TT} (hc : PT X.nox c tc) (ha : PXs X a t) (hb : PXs X b u) : PX X (.If c a b pos) (xIf tc t u) := by
  intro pins s σ H D Dx I h
  refine wpAny_If (wpAny_mono (hc pins s σ H _ (I.wish _) h) (fun d s1 ⟨H1, I1, q1⟩ => ?_) fun _ _ z => False.elim z)
  cases d with
  | true => exact ha pins s1 σ H1 D Dx I1.unwish q1
  | false => exact hb pins s1 σ H1 D Dx I1.unwish q1
/-- name = value -/
def xSet (i : Nat) (te : TEx) : TSx := fun D Dx σ H => te σ H (fun v H1 => D.nx (σ.set i (some v)) H1) fun C H1 => Dx C σ H1
theorem px_set {i : Nat} {x : Str} {pos' : Pos} (hN : X.N.Nodup) (hi : X.N[i]? = some x) (hx : Loc X.env.scope x) (he : PEx X e te) (hs : swapsWith e (some (.Name x pos')) pos.line X.env = pure false := by rfl)
    (hf : X.fn x = true ∨ X.env.scope.names.lookup x = some .local := by first | exact .inl rfl | exact .inr rfl | assumption) : PX X (.Assign [.Name x pos'] e pos) (xSet i te) := by
  intro pins s σ H D Dx I h
  refine wpAny_Assign_Name (wpAny_mono (he pins s σ H _ _ I h) (fun v s1 ⟨y, H1, I1, r1, q1⟩ => ?_) fun x' s' z => ?_) hs
  · exact store_ok I1 hN hi hx r1 (fun s2 I2 => ⟨_, H1, I2, q1⟩) hf
  · obtain ⟨a, C, σ', H0, s0, H', e1, I0, F, rfl, q⟩ := z
    exact ⟨a, C, σ', H0, s0, H', e1, I0, F, q⟩
/-- a value dropped -/
def xDrop (te : TEx) : TSx := fun D Dx σ H => te σ H (fun _ H1 => D.nx σ H1) fun C H1 => Dx C σ H1
theorem px_expr (he : PEx X e te) (hs : swapsWith e none pos.line X.env = pure false := by rfl) : PX X (.Expr e pos) (xDrop te) := by
  intro pins s σ H D Dx I h
  refine wpAny_Expr_any (wpAny_mono (he pins s σ H _ _ I h) (fun v s1 ⟨x, H1, I1, r1, q1⟩ => ⟨σ, H1, I1, q1⟩) fun x' s' z => ?_) I.quiet hs
  obtain ⟨a, C, σ', H0, s0, H', e1, I0, F, rfl, q⟩ := z
  exact ⟨a, C, σ', H0, s0, H', e1, I0, F, q⟩
/-- f(..) that may raise -/
def xCall (sp : Sp) (dvs : List V) (t : TA) : TEx := fun σ H Q Ex => t σ H fun vs H1 => sp (vs ++ dvs) H1 Q fun C _ H2 => Ex C H2
theorem pex_call {k : Nat} {f : Addr} {fd : FuncData} {ps : List Str} {sp : Sp} {dvs : List V} {ds : List Value} {x : Str} {p : Pos} {es : List Expr} {ta : TA}
    (F : FnOk X.prog X.w X.K X.mg X.base (CXb X.prog X.w) k f fd ps sp) (hr : Room k X.A) (hg : Gl X x) (hm : X.mg x = some (.ref f)) (hk : PySem.W.keepIn X.K (.ref f) = true) (hb : Binds X.K fd ps ds) (hd : Vals dvs ds)
    (ha : PA X.nox (e :: es) ta) (hdb : (x == ("__debug__" : Str)) = false := by decide) (he : starEach (e :: es) X.env = (false, eval e X.env) :: starEach es X.env := by rfl) (hpl : (backTo pos (starEach es X.env)).any (·.1) = false := by rfl) :
    PEx X (.Call (.Name x p) (e :: es) [] pos) (xCall sp dvs ta) := by
  intro pins s σ H Q Ex I h
  refine wpAny_Call_Name_kw (ld_glob I hg hm ?_ hdb)
  refine PySem.W.callWith_K (h₀ := X.base) I.ok.mod.kin hk (wpAny_mono (ha pos pins s σ H _ (I.wish _) h) (fun us s1 ⟨vs, H1, I1, r, q⟩ => ⟨I1.kIn, ?_⟩) fun _ _ z => False.elim z) he hpl
  have I2 : Inv X pins σ H1 s1 := I1.unwish
  have r2 : Vals (vs ++ dvs) (us ++ ds) := r.append hd
  have hl : (us ++ ds).length = ps.length := by rw [← r2.length]; exact F.len _ _ _ _ q
  refine wpAny_call (codeAny_mono (F.run X.A X.stack s1 H1 ⟨us, []⟩ (us ++ ds) (vs ++ dvs) Q _ hr I2.env0 (hb s1 us I2.kIn hl) r2 q) fun r s' hq => ?_)
  cases r with
  | error x' =>
    obtain ⟨a, C, H', e1, Fl, z⟩ := hq
    exact ⟨a, C, σ, H1, s1, H', e1, I2, Fl, rfl, z⟩
  | ok fl =>
    cases fl with
    | ret u => exact I2.after hq
    | next => exact False.elim hq
    | brk => exact False.elim hq
    | cont => exact False.elim hq
end

/-- within the except suite: the exception's object is pinned -/
def Cx.caught (X : Cx) (e : Addr) (oe : Obj) : Cx := { X with A := X.A.mark (some (.ref e)), calm := false, pn := (e, oe) :: X.pn, xe := fun _ _ => False }
theorem Inv.caught {X : Cx} {σ : St} {H H' : Hp} {s s' : Shared} {e : Addr} {oe : Obj} {pins : List (Addr × Obj)} (I : Inv X pins σ H s) (os : s'.os = s.os) (bare : AllBare s'.gens) (un : Un (frs X.stack) [] H H' s.heap s'.heap) (hok : HOk X.prog X.w H' s'.heap)
    (he : s'.heap.get? e = some oe) (hn : s.heap.get? e = none) (hu : H' e = none) (hc : ∀ v, oe.data ≠ .cell v) (hst : X.stack = X.env :: X.outer) : Inv (X.caught e oe) pins σ H' s' := by
  have J : Inv X pins σ H' s' := I.call' os un hok bare (fun b z => absurd z (by simp))
  have ne : e ≠ X.env.locals := fun z => by
    obtain ⟨m, ⟨o, _, _, ho, _⟩, _⟩ := I.loc
    rw [← z, hn] at ho; cases ho
  have nf : e ∉ X.fs := fun z => by
    obtain ⟨_, o, ho, _⟩ := I.funs.mem z
    rw [hn] at ho; cases ho
  have ok := J.ok
  refine ⟨⟨ok.mod, ok.kind, ok.glob, ok.blt, ok.above, ok.inj, ok.has, ok.cab, (fun z => by cases z), ok.frames, ok.stk, ok.exf, ok.bs, ok.bsz, ok.noex, ok.exfs, ok.funs, ok.frf⟩, J.os, J.bare, J.base, J.loc, J.cell, J.free, J.freeC, fun p hp => ?_, J.hok, J.len⟩
  have hp' : p = (e, oe) ∨ p ∈ X.pn ++ pins := by
    have z : p ∈ (e, oe) :: (X.pn ++ pins) := hp
    exact List.mem_cons.mp z
  rcases hp' with rfl | hp'
  · exact ⟨he, hu, ne, nf, hc⟩
  · exact J.pin p hp'
theorem Inv.uncaught {X : Cx} {σ : St} {H : Hp} {s : Shared} {e : Addr} {oe : Obj} {pins : List (Addr × Obj)} (ok : X.Ok) (J : Inv (X.caught e oe) pins σ H s) : Inv X pins σ H s :=
  ⟨ok, J.os, J.bare, J.base, J.loc, J.cell, J.free, J.freeC, fun p hp => J.pin p (List.mem_cons_of_mem (e, oe) hp), J.hok, J.len⟩
/-- the except clause's name is gone behind it -/
theorem Inv.forget {X : Cx} {σ : St} {H : Hp} {s : Shared} {pins : List (Addr × Obj)} {i t : Nat} {n : Str} {m : Str → Option Value} {v : Option Value} {h' : Heap} (I : Inv X pins σ H s) (hN : X.N.Nodup) (hi : X.N[i]? = some n)
    (hm : s.heap.Ns X.env.locals m) (hl : ∀ (j : Nat) (x : Str) (v : V), X.N[j]? = some x → σ[j]? = some (some v) → Vis X.env.scope x → ∃ u, RelV v u ∧ Look X.env s.heap m x u)
    (hn : h'.Ns X.env.locals (fun x => if x = n then v else m x)) (hs : Heap.SameBut X.env.locals s.heap h') : Inv X pins (σ.set i none) H { s with heap := h', toks := t } := by
  have iσ : i < σ.length := by rw [I.len]; exact (List.getElem?_eq_some_iff.mp hi).1
  refine ⟨I.ok, I.os, I.bare, ⟨fun b o e n hb hx => ?_, fun b o e n hb hx => ?_, I.base.free, fun b o e hx => ?_, I.base.tups, I.base.frzs, I.base.tbls⟩, ⟨_, hn, fun j y v' e1 e2 e3 => ?_⟩, fun y c e => ?_, I.free, I.freeC, fun p hp => ?_, fun b u e => ?_, by simpa using I.len⟩
  · exact (hs.2 b (Nat.ne_of_lt (Nat.lt_of_lt_of_le (Heap.lt_size e) I.ok.above))).trans (I.base.keep b o e n hb hx)
  · obtain ⟨sl, e1⟩ := I.base.slot b o e n hb hx
    exact ⟨sl, (hs.2 b (Nat.ne_of_lt (Nat.lt_of_lt_of_le (Heap.lt_size e) I.ok.above))).trans e1⟩
  · obtain ⟨o', e1⟩ := I.base.there b o e hx
    exact ⟨o', (hs.2 b (Nat.ne_of_lt (Nat.lt_of_lt_of_le (Heap.lt_size e) I.ok.above))).trans e1⟩
  · by_cases hj : j = i
    · subst hj
      rw [List.getElem?_set_self iσ] at e2
      cases e2
    · rw [List.getElem?_set_ne (Ne.symm hj)] at e2
      obtain ⟨u', r', q⟩ := hl j y v' e1 e2 e3
      refine ⟨u', r', ?_⟩
      have ny : y ≠ n := fun z => hj (nodup_ix hN e1 (z ▸ hi))
      rcases q with ⟨k, e⟩ | ⟨k, c, e, z⟩
      · exact .inl ⟨k, (if_neg ny).trans e⟩
      · exact .inr ⟨k, c, e, z.sameBut hs (I.cne y c e)⟩
  · obtain ⟨w', z⟩ := I.cell y c e
    exact ⟨w', z.sameBut hs (I.cne y c e)⟩
  · obtain ⟨e, n, ne, nf, d⟩ := I.pin p hp
    exact ⟨(hs.2 p.1 ne).trans e, n, ne, nf, d⟩
  · refine (I.hok b u e).stay (fun c v hc q => (hs.2 c ?_).trans q) (fun _ z => z) fun _ _ z => z
    rintro rfl
    rcases hc with z | z
    · rw [← z, I.free] at e; cases e
    · rw [I.free] at z; cases z
section
variable {X : Cx} {body suite : List Stmt} {b₀ : Stmt} {t : TSx} {ts : Addr → Obj → TS} {c n : Str} {c₀ : Value} {i : Nat} {np hpos pos : Pos}
/-- try: body except c as n: suite -/
def tTry (K : PySem.W.Frag) (c₀ : Value) (i : Nat) (t : TSx) (ts : Addr → Obj → TS) : TS := fun D σ H => t D (fun C σ' H' => PySem.W.exmOne K C c₀ = some true ∧ ∀ (e : Addr) (oe : Obj), oe.cls = C → H' e = none →
  ts e oe { nx := fun σ2 H2 => D.nx (σ2.set i none) H2, rt := D.rt, bk := fun σ2 H2 => D.bk (σ2.set i none) H2, ct := fun σ2 H2 => D.ct (σ2.set i none) H2 } (σ'.set i (some (.ref e))) H') σ H
theorem ps_try (hst : X.stack = X.env :: X.outer) (hfr : X.env.frame = some X.env.locals) (hN : X.N.Nodup) (hi : X.N[i]? = some n) (hn : X.env.kindOf n = some .local) (hg : Gl X c) (hm : X.mg c = some c₀)
    (hb : PXs X body t) (hs : ∀ e oe, PSs (X.caught e oe) (b₀ :: suite) (ts e oe)) (hdb : (c == ("__debug__" : Str)) = false := by decide) :
    PS X (.Try body [.ExceptHandler (some (.Name c np)) (some n) (b₀ :: suite) hpos] [] [] pos) (tTry X.K c₀ i t ts) := by
  intro pins s σ H D I h
  refine wpAny_Try_except (wpAny_mono (hb pins s σ H D _ I h) (fun f s1 q => ?_) fun x s1 q => ?_)
  · cases f with
    | next => exact wpAny_execs_nil q
    | ret v => exact q
    | brk => exact q
    | cont => exact q
  obtain ⟨e, C, σ', H0, s0, H', rfl, I0, F, hx, q⟩ := q
  obtain ⟨B, a0, fl, a⟩ := F.fly
  rw [hst] at fl
  have frm : X.A.frames = some (X.env :: X.outer) := by rw [← hst]; exact I0.ok.frames
  have stkE : frs X.stack = frs (X.env :: X.outer) := by rw [hst]
  refine wpAny_looks_onW (base := B) frm hfr fl fun h4 hd4 up4 => ?_
  have a4 : Aft X.prog X.w X.stack H0 H' s0 B h4 := a.next hd4.1 (by rw [hst]; exact fl.2.2.1) up4
  refine wpAny_landsW hd4 fun h5 fl5 up5 => ?_
  have a5 : Aft X.prog X.w X.stack H0 H' s0 B h5 := a4.next fl5.1 (by rw [hst]; exact hd4.2.2.1) up5
  obtain ⟨oe5, ws5, he5, hc5, hd5, _⟩ := fl5.first
  have J5 : Inv (X.caught e oe5) pins σ' H' { s1 with heap := h5 } := I0.caught (s' := { s1 with heap := h5 }) F.os F.bare a5.un a5.hok he5 F.new F.untr (fun v z => by rw [hd5] at z; cases z) hst
  refine wpAny_handleBy_cons (codeAny_handlers_test (ld_glob (X := X.caught e oe5) J5 hg hm ?_ hdb)) (by intro z; cases z)
  have LT : PySem.W.Looks (model X.prog X.w) h5 (typeOf (.ref e)) (.ref C) := hc5 ▸ (PySem.W.Looks.ld he5).andThen .now
  refine (PySem.W.exm_one (K := X.K) J5.kIn LT hx).here ?_
  refine codeAny_handlers_suite_as (lands_againW fl5 fun h6 fl6 up6 => ?_)
  have a6 : Aft X.prog X.w X.stack H0 H' s0 B h6 := a5.next fl6.1 (by rw [hst]; exact fl5.2.2.1) up6
  obtain ⟨oe, ws, he6, hc6, hd6, _⟩ := fl6.first
  have J6 : Inv (X.caught e oe) pins σ' H' { s1 with heap := h6 } := I0.caught (s' := { s1 with heap := h6 }) F.os F.bare a6.un a6.hok he6 F.new F.untr (fun v z => by rw [hd6] at z; cases z) hst
  refine store_ok (X := X.caught e oe) (v := .ref e) J6 hN hi (.inl hn) rfl (fun s7 I7 => ?_) (.inr hn)
  refine wpAny_mono (hs e oe pins s7 _ H' _ I7 (q e oe hc6 F.untr)) (fun f s8 z => ?_) fun _ _ z => False.elim z
  have goes : ∀ {σ2 : St} {H2 : Hp} {Q : Unit → Shared → Prop}, Inv (X.caught e oe) pins σ2 H2 s8 → (∀ s9, Inv X pins (σ2.set i none) H2 s9 → Q () s9) → wpAny (model X.prog X.w) X.A (do bindName X.env n .none; unbindBehindTheSuite X.env n hpos) Q X.xe s8 := by
    intro σ2 H2 Q I2 k
    have I3 : Inv X pins σ2 H2 s8 := Inv.uncaught I0.ok I2
    obtain ⟨m, hm2, hl2⟩ := I3.loc
    refine wpAny_nameGoes_keeps hn hm2 (by rw [I3.ok.kind]; rfl) fun h9 v hn9 hs9 => k _ (I3.forget (t := s8.toks + 1) hN hi hm2 hl2 hn9 hs9)
  cases f with
  | next =>
    obtain ⟨σ2, H2, I2, z⟩ := z
    exact goes I2 fun s9 I9 => ⟨_, H2, I9, z⟩
  | brk =>
    obtain ⟨σ2, H2, I2, z⟩ := z
    exact goes I2 fun s9 I9 => ⟨_, H2, I9, z⟩
  | cont =>
    obtain ⟨σ2, H2, I2, z⟩ := z
    exact goes I2 fun s9 I9 => ⟨_, H2, I9, z⟩
  | ret u =>
    obtain ⟨v, σ2, H2, I2, r, z⟩ := z
    exact goes I2 fun s9 I9 => ⟨v, _, H2, I9, r, z⟩
end
end L2

/-! ## more rules over the hand layer: isinstance, == and != of lists and tuples of flat things -/
namespace L2
open PySem PySem.Spec PyProof.Rows
/-- two rows of flat values, item by item -/
def eqVs : List V → List V → Bool
  | [], [] => true
  | x :: xs, y :: ys => eqV x y && eqVs xs ys
  | _, _ => false
theorem eqVs_len : ∀ {xs ys : List V}, xs.length ≠ ys.length → eqVs xs ys = false
  | [], [], h => absurd rfl h
  | [], _ :: _, _ => rfl
  | _ :: _, [], _ => rfl
  | x :: xs, y :: ys, h => by
    show (eqV x y && eqVs xs ys) = false
    rw [eqVs_len (fun z => h (by simp [z]))]
    simp
def eqAtJ (xs ys : List V) (j : Nat) : Bool := eqV (xs.getD j .non) (ys.getD j .non)
theorem eqVs_all : ∀ {xs ys : List V}, xs.length = ys.length → (List.range xs.length).all (eqAtJ xs ys) = eqVs xs ys
  | [], [], _ => rfl
  | [], _ :: _, h => by simp at h
  | _ :: _, [], h => by simp at h
  | x :: xs, y :: ys, h => by
    have ih := eqVs_all (xs := xs) (ys := ys) (by simpa using h)
    rw [List.length_cons, List.range_succ_eq_map, List.all_cons, List.all_map]
    show (eqV x y && _) = (eqV x y && eqVs xs ys)
    rw [← ih]
    rfl
theorem eqVs_refl : ∀ {xs : List V}, xs.all flatV = true → eqVs xs xs = true
  | [], _ => rfl
  | x :: xs, h => by
    rw [List.all_cons, Bool.and_eq_true] at h
    show (eqV x x && eqVs xs xs) = true
    rw [eqVs_refl h.2, Bool.and_true]
    cases x with
    | non => rfl
    | bl b => exact beq_self_eq_true b
    | int i => exact beq_self_eq_true i
    | str i => exact beq_self_eq_true i
    | _ => exact absurd h.1 Bool.false_ne_true
section
variable {X : Cx}
theorem items_eqAt {A : Around} {s : Shared} {xs ys : List V} {us ws : List Value} (r : Vals xs us) (r' : Vals ys ws) (f : xs.all flatV = true) (f' : ys.all flatV = true) (j : Nat) (h1 : j < us.toArray.size) (h2 : j < ws.toArray.size) :
    SeqAt.EqAt A s us.toArray[j] ws.toArray[j] (eqAtJ xs ys j) := by
  have l1 : j < xs.length := by rw [r.length]; simpa using h1
  have l2 : j < ys.length := by rw [r'.length]; simpa using h2
  obtain ⟨u, e1, q1⟩ := r.get (i := j) (x := xs[j]) (List.getElem?_eq_getElem l1)
  obtain ⟨w, e2, q2⟩ := r'.get (i := j) (x := ys[j]) (List.getElem?_eq_getElem l2)
  have a1 : us.toArray[j] = u := by
    have := (List.getElem?_eq_some_iff.mp e1).2
    simpa using this
  have a2 : ws.toArray[j] = w := by
    have := (List.getElem?_eq_some_iff.mp e2).2
    simpa using this
  rw [a1, a2]
  have g1 : xs.getD j .non = xs[j] := by simp [List.getD_eq_getElem?_getD, l1]
  have g2 : ys.getD j .non = ys[j] := by simp [List.getD_eq_getElem?_getD, l2]
  unfold eqAtJ
  rw [g1, g2]
  exact eqAt_V q1 q2 (List.all_eq_true.mp f _ (List.getElem_mem l1)) (List.all_eq_true.mp f' _ (List.getElem_mem l2))
def rEqL (K : PySem.W.Frag) (neg : Bool) : R2 := fun x y H Q => ∃ a b xs ys, x = .ref a ∧ y = .ref b ∧ SqL K H a xs ∧ SqL K H b ys ∧ xs.all flatV = true ∧ ys.all flatV = true ∧ Q (.bl (if neg then !eqVs xs ys else eqVs xs ys)) H
theorem op_eqL (hu : X.A.units < cLine) : OpR X (compareOp .Eq) (rEqL X.K false) := by
  intro pins s σ H x y v u Q I rx ry h
  obtain ⟨a, b, xs, ys, rfl, rfl, ha, hb, fx, fy, q⟩ := h
  cases rx
  cases ry
  obtain ⟨us, r, pl, _⟩ := I.list ha
  obtain ⟨ws, r', pl', _⟩ := I.list hb
  by_cases hl : xs.length = ys.length
  · have hz : us.toArray.size = ws.toArray.size := by simp only [List.size_toArray]; rw [← r.length, ← r'.length, hl]
    refine SeqAt.eq_listAt (e := eqAtJ xs ys) pl.isList pl'.isList hz hu (fun j h1 h2 => items_eqAt r r' fx fy j h1 h2) ⟨.bl (eqVs xs ys), H, I, ?_, q⟩
    show Value.bool _ = Value.bool _
    rw [List.size_toArray, ← r.length, eqVs_all hl]
  · have hz : (us.toArray.size != ws.toArray.size) = true := by
      simp only [List.size_toArray]; rw [← r.length, ← r'.length]; exact bne_iff_ne.mpr hl
    refine SeqAt.eq_list_lengthsAt pl.isList pl'.isList hz hu ⟨.bl (eqVs xs ys), H, I, ?_, q⟩
    show Value.bool _ = Value.bool _
    rw [eqVs_len hl]
theorem op_neL (hu : X.A.units < cLine) : OpR X (compareOp .NotEq) (rEqL X.K true) := by
  intro pins s σ H x y v u Q I rx ry h
  obtain ⟨a, b, xs, ys, rfl, rfl, ha, hb, fx, fy, q⟩ := h
  cases rx
  cases ry
  obtain ⟨us, r, pl, _⟩ := I.list ha
  obtain ⟨ws, r', pl', _⟩ := I.list hb
  by_cases hl : xs.length = ys.length
  · have hz : us.toArray.size = ws.toArray.size := by simp only [List.size_toArray]; rw [← r.length, ← r'.length, hl]
    refine SeqAt.RcNeAt.lists (e := eqAtJ xs ys) pl.isList pl'.isList hz hu (fun j h1 h2 => items_eqAt r r' fx fy j h1 h2) _ _ _ _ ⟨.bl (!eqVs xs ys), H, I, ?_, q⟩
    show Value.bool _ = Value.bool _
    rw [List.size_toArray, ← r.length, eqVs_all hl]
  · have hz : (us.toArray.size != ws.toArray.size) = true := by
      simp only [List.size_toArray]; rw [← r.length, ← r'.length]; exact bne_iff_ne.mpr hl
    refine SeqAt.RcNeAt.lists_lengths pl.isList pl'.isList hz hu _ _ _ _ ⟨.bl (!eqVs xs ys), H, I, ?_, q⟩
    show Value.bool _ = Value.bool _
    rw [eqVs_len hl]
    rfl
def rEqT (K : PySem.W.Frag) : R2 := fun x y H Q => ∃ a b xs ys, x = .ref a ∧ y = .ref b ∧ SqT K H a xs ∧ SqT K H b ys ∧ xs.length = ys.length ∧ xs.all flatV = true ∧ ys.all flatV = true ∧ Q (.bl (eqVs xs ys)) H
theorem op_eqT (hu : X.A.units < cLine) : OpR X (compareOp .Eq) (rEqT X.K) := by
  intro pins s σ H x y v u Q I rx ry h
  obtain ⟨a, b, xs, ys, rfl, rfl, ha, hb, hl, fx, fy, q⟩ := h
  cases rx
  cases ry
  obtain ⟨us, r, pl, _⟩ := I.tuple ha
  obtain ⟨ws, r', pl', _⟩ := I.tuple hb
  have hz : us.toArray.size = ws.toArray.size := by simp only [List.size_toArray]; rw [← r.length, ← r'.length, hl]
  refine SeqAt.eq_tupleAt (e := eqAtJ xs ys) pl pl' hu (fun j h1 h2 => items_eqAt r r' fx fy j h1 h2) ⟨.bl (eqVs xs ys), H, I, ?_, q⟩
  show Value.bool _ = Value.bool _
  rw [← hz, Nat.min_self, beq_self_eq_true, Bool.and_true, List.size_toArray, ← r.length, eqVs_all hl]
/-! ### isinstance -/
def cVal : V → Option Value
  | .ref a => some (.ref a)
  | .ty n => some (.type n)
  | _ => none
theorem cVal_rel {c : V} {k u : Value} (e : cVal c = some k) (r : RelV c u) : u = k := by
  cases c with
  | ref a => cases e; exact r
  | ty n => cases e; exact r
  | _ => cases e
theorem call_isinst : CallR X (.builtin "isinstance") (fun xs H Q => ∃ x c t k b, xs = [x, c] ∧ TyOf X.K H x t ∧ cVal c = some k ∧ PySem.W.kitOne X.K t k = some b ∧ Q (.bl b) H) := by
  intro pins s σ H xs us Q I r h
  obtain ⟨x, c, t, k, b, rfl, ty, ck, e, q⟩ := h
  obtain ⟨u, w, rfl, ru, rw'⟩ := vals2 r
  obtain rfl := cVal_rel ck rw'
  exact isinst_ok I ru ty e fun tk => ⟨.bl b, H, I.tok tk, rfl, q⟩
/-- of a caught exception (pinned), one class -/
theorem call_isinst_exc : CallR X (.builtin "isinstance") (fun xs H Q => ∃ (a : Addr) (oe : Obj) (C : Addr) (c : V) (k : Value) (b : Bool), xs = [.ref a, c] ∧ (a, oe) ∈ X.pn ∧ oe.cls = .ref C ∧ Bk.ExcK X.K C ∧ cVal c = some k ∧ PySem.W.kitOne X.K (.ref C) k = some b ∧ Q (.bl b) H) := by
  intro pins s σ H xs us Q I r h
  obtain ⟨a, oe, C, c, k, b, rfl, hp, hc, ek, ck, e, q⟩ := h
  obtain ⟨u, w, rfl, ru, rw'⟩ := vals2 r
  obtain rfl := cVal_rel ck rw'
  cases ru
  exact PySem.W.kia_one (Bk.kitx_exc ek) I.kIn ⟨oe, (I.pin _ (List.mem_append_left _ hp)).1, hc⟩ e (fun z => nomatch z) fun tk => ⟨.bl b, H, I.tok tk, rfl, q⟩
theorem cVals_rel : ∀ {cs : List V} {ks us : List Value}, cs.map cVal = ks.map some → Vals cs us → us = ks
  | [], [], _, _, .nil => rfl
  | [], _ :: _, _, h, _ => by simp at h
  | _ :: _, [], _, h, _ => by simp at h
  | c :: cs, k :: ks, _, h, .cons r t => by
    rw [List.map_cons, List.map_cons] at h
    injection h with h1 h2
    rw [cVal_rel h1 r, cVals_rel h2 t]
/-- .. a tuple of classes -/
theorem call_isinst_excT : CallR X (.builtin "isinstance") (fun xs H Q => ∃ (a tp : Addr) (oe : Obj) (C : Addr) (cs : List V) (ks : List Value) (b : Bool), xs = [.ref a, .ref tp] ∧ (a, oe) ∈ X.pn ∧ oe.cls = .ref C ∧ Bk.ExcK X.K C ∧ H tp = some (.tup cs) ∧
    cs.map cVal = ks.map some ∧ PySem.W.kitAny X.K (.ref C) ks = some b ∧ Q (.bl b) H) := by
  intro pins s σ H xs us Q I r h
  obtain ⟨a, tp, oe, C, cs, ks, b, rfl, hp, hc, ek, ht, hk, e, q⟩ := h
  obtain ⟨u, w, rfl, ru, rw'⟩ := vals2 r
  cases ru
  cases rw'
  obtain ⟨_, its, rv, o, e1, e2, n, e3⟩ := (show ObjOk X.prog X.w H s.heap tp (.tup cs) from I.hok tp _ ht)
  obtain rfl := cVals_rel hk rv
  obtain ⟨oc, dd, dt, sl⟩ := o
  have e2' : oc = .type "tuple" := e2
  have e3' : dt = .seq its.toArray n := e3
  subst e2' e3'
  exact PySem.W.kia_tup (Bk.kitx_exc ek) I.kIn ⟨oe, (I.pin _ (List.mem_append_left _ hp)).1, hc⟩ e1 e (fun z => nomatch z) fun tk => ⟨.bl b, H, I.tok tk, rfl, q⟩
end
end L2

/-! ## a def of the text in one hand: where it lies, how it binds -/
namespace L2
open PySem PySem.Spec PyProof.Rows
structure Dv (K : PySem.W.Frag) (mg : Str → Option Value) (x : Str) (st : Stmt) (ps : List Str) where
  f : Addr
  fd : FuncData
  F : Fun K x x st f fd
  b : Binds K fd ps []
  m : mg x = some (.ref f)
section
variable {X : Cx} {x : Str} {st : Stmt} {ps : List Str} {CX : CXT} {k : Nat} {sp : Sp} {E : XK} {p pos : Pos} {e : Expr} {es : List Expr} {t : TA}
/-- a call of it, nothing raised that is not wished -/
theorem Dv.call (d : Dv X.K X.mg x st ps) (G : FnOk X.prog X.w X.K X.mg X.base CX k d.f d.fd ps sp) (hr : Room k X.A) (hx : Passes CX X E) (ha : PA X (e :: es) t) (hg : Gl X x := by rfl) (hdb : (x == ("__debug__" : Str)) = false := by decide)
    (he : starEach (e :: es) X.env = (false, eval e X.env) :: starEach es X.env := by rfl) (hpl : (backTo pos (starEach es X.env)).any (·.1) = false := by rfl) : PE X (.Call (.Name x p) (e :: es) [] pos) (tCall sp [] E t) :=
  pe_call G hr hg d.m d.F.kp d.b .nil hx ha hdb he hpl
/-- a call of it within a try -/
theorem Dv.callx (d : Dv X.K X.mg x st ps) (G : FnOk X.prog X.w X.K X.mg X.base (CXb X.prog X.w) k d.f d.fd ps sp) (hr : Room k X.A) (ha : PA X.nox (e :: es) t) (hg : Gl X x := by rfl) (hdb : (x == ("__debug__" : Str)) = false := by decide)
    (he : starEach (e :: es) X.env = (false, eval e X.env) :: starEach es X.env := by rfl) (hpl : (backTo pos (starEach es X.env)).any (·.1) = false := by rfl) : PEx X (.Call (.Name x p) (e :: es) [] pos) (xCall sp [] t) :=
  pex_call G hr hg d.m d.F.kp d.b .nil ha hdb he hpl
end
theorem scal_int (i j : Int) : scal (.int i) (.int j) = true := rfl
theorem scal_str (i j : Str) : scal (.str i) (.str j) = true := rfl
theorem scal_bl (i j : Bool) : scal (.bl i) (.bl j) = true := rfl
theorem dV_int (i j : Int) : decide (V.int i = V.int j) = decide (i = j) := by simp
theorem dV_str (i j : Str) : decide (V.str i = V.str j) = decide (i = j) := by simp
theorem dV_bl (i j : Bool) : decide (V.bl i = V.bl j) = decide (i = j) := by simp
/-- the law's reader of a cell -/
def cell (ns : List Int) (k : Int) : Int := if k < (ns.length : Int) then ns.getD k.toNat 0 else 0
theorem at_cell {ns : List Int} {k : Int} (h0 : 0 ≤ k) (h : k < (ns.length : Int)) : atI (ns.map V.int) k = some (V.int (ns.getD k.toNat 0)) := by
  have hk : k.toNat < ns.length := by omega
  have e : k = ((k.toNat : Nat) : Int) := by omega
  rw [e]
  refine atI_nat ?_
  rw [List.getElem?_map, Int.toNat_natCast]
  simp [List.getD_eq_getElem?_getD, hk]
end L2

/-! ## list comprehensions over the hand layer -/
namespace L2
open PySem PySem.Spec PyProof.Rows
theorem PS.calm {X : Cx} {st : Stmt} {t : TS} (h : PS X.nox st t) : PS X st t := fun pins s σ H D I hw =>
  wpAny_mono (h pins s σ H D (I.wish _) hw) (fun _ _ q => q.unwish) fun _ _ z => False.elim z

/-! ### the cells that a block takes over -/
def closStep (env : Env) (p : Str × NameKind) (cs : List (Str × Addr)) : List (Str × Addr) := if (p.2 == NameKind.free) = true then (p.1, (env.cells.lookup p.1).getD 0) :: cs else cs
theorem forIn_fold {α β : Type} {f : α → β → Sem (ForInStep β)} {g : α → β → β} : ∀ {l : List α} (c : β), (∀ x ∈ l, ∀ c, f x c = pure (.yield (g x c))) → forIn l c f = pure (l.foldl (fun c x => g x c) c)
  | [], _, _ => rfl
  | x :: l, c, h => by
    rw [List.forIn_cons, h x List.mem_cons_self, pure_bind]
    exact forIn_fold _ fun y hy => h y (List.mem_cons_of_mem _ hy)
theorem clos_fold {env : Env} : ∀ {ns : List (Str × NameKind)} {cs : List (Str × Addr)}, (∀ p ∈ ns, p.2 = .free → ∃ c, env.cells.lookup p.1 = some c) → (∀ y c, cs.lookup y = some c → env.cells.lookup y = some c) →
    (∀ y c, (ns.foldl (fun c x => closStep env x c) cs).lookup y = some c → env.cells.lookup y = some c) ∧ ∀ y, ((y, NameKind.free) ∈ ns ∨ ∃ c, cs.lookup y = some c) → ∃ c, (ns.foldl (fun c x => closStep env x c) cs).lookup y = some c
  | [], cs, _, h => ⟨h, fun y z => z.elim (fun z => nomatch z) id⟩
  | p :: ns, cs, hf, h => by
    have step : ∀ y c, (closStep env p cs).lookup y = some c → env.cells.lookup y = some c := fun y c e => by
      unfold closStep at e
      by_cases hp : (p.2 == NameKind.free) = true
      · rw [if_pos hp, List.lookup_cons] at e
        obtain ⟨c', ec⟩ := hf p List.mem_cons_self (by simpa using hp)
        split at e
        · rename_i q
          have q' : y = p.1 := by simpa using q
          rw [ec] at e
          have e' : c' = c := Option.some.inj e
          rw [q', ec, e']
        · exact h y c e
      · rw [if_neg hp] at e
        exact h y c e
    obtain ⟨h1, h2⟩ := clos_fold (ns := ns) (cs := closStep env p cs) (fun q hq => hf q (List.mem_cons_of_mem _ hq)) step
    refine ⟨h1, fun y z => h2 y ?_⟩
    rcases z with z | ⟨c, z⟩
    · rcases List.mem_cons.mp z with z | z
      · refine .inr ?_
        unfold closStep
        rw [← z]
        simp [List.lookup_cons]
      · exact .inl z
    · refine .inr ?_
      unfold closStep
      by_cases hp : (p.2 == NameKind.free) = true
      · rw [if_pos hp, List.lookup_cons]
        split
        · exact ⟨_, rfl⟩
        · exact ⟨c, z⟩
      · rw [if_neg hp]; exact ⟨c, z⟩
theorem closure_of {scope : Scope} {env : Env} (h : ∀ p ∈ scope.names, p.2 = .free → ∃ c, env.cells.lookup p.1 = some c) :
    ∃ cl, closureFor scope env = pure cl ∧ (∀ y c, cl.lookup y = some c → env.cells.lookup y = some c) ∧ ∀ y, (y, NameKind.free) ∈ scope.names → ∃ c, cl.lookup y = some c := by
  obtain ⟨h1, h2⟩ := clos_fold (cs := []) h (fun y c e => by simp at e)
  refine ⟨_, ?_, h1, fun y hy => h2 y (.inl hy)⟩
  simp only [closureFor]
  rw [forIn_fold (g := closStep env) [] (fun x hx c => ?_)]
  · rfl
  · obtain ⟨n, k⟩ := x
    unfold closStep
    by_cases hk : (k == NameKind.free) = true
    · obtain ⟨c', ec⟩ := h (n, k) hx (by simpa using hk)
      simp only [hk, if_true, cellOf, ec, pure_bind, Option.getD_some]
    · simp only [hk, Bool.false_eq_true, if_false]

/-- the context of a comprehension's block: its own names first, then those around it -/
def Cx.blk (X : Cx) (ts M : List Str) (scope : Scope) (cl : List (Str × Addr)) (C : Addr) (fp : List Addr) (s : Shared) (H : Hp) : Cx where
  prog := X.prog
  w := X.w
  K := X.K
  mg := X.mg
  base := X.base
  A := X.A
  N := ts ++ M
  s₀ := s
  H₀ := H
  env := compEnvC scope cl C X.env
  outer := X.stack
  stack := X.stack
  ex := fp
  fn := fun _ => false
  calm := X.calm
  pn := X.pn
  xe := fun _ _ => False

theorem relabel_lookup {env : Env} : ∀ {names : List (Str × NameKind)} {x : Str} {k : NameKind}, (names.map fun (n, k) => if (k == NameKind.free && env.scope.kind == .function && env.kindOf n == some .cell) then (n, NameKind.cell) else (n, k)).lookup x = some k →
    (names.lookup x = some k) ∨ (k = .cell ∧ names.lookup x = some .free)
  | [], _, _, h => by simp at h
  | (n, k0) :: r, x, k, h => by
    have ih := @relabel_lookup env r x k
    rw [List.map_cons] at h
    by_cases hc : (k0 == NameKind.free && env.scope.kind == .function && env.kindOf n == some .cell) = true
    · simp only [hc, if_true, List.lookup_cons] at h ⊢
      cases hx : x == n with
      | true =>
        rw [hx] at h
        have e : NameKind.cell = k := Option.some.inj h
        simp only [Bool.and_eq_true, beq_iff_eq] at hc
        exact .inr ⟨e.symm, by rw [hc.1.1]⟩
      | false =>
        rw [hx] at h
        exact ih h
    · simp only [hc, Bool.false_eq_true, if_false, List.lookup_cons] at h ⊢
      cases hx : x == n with
      | true => rw [hx] at h; exact .inl h
      | false => rw [hx] at h; exact ih h

/-- what is asked of a block's names: none is a cell of its own, the free ones are cells around it, the own ones are not names around it -/
structure BlkOk (X : Cx) (ts M : List Str) (scope : Scope) : Prop where
  kind : scope.kind = .function
  cell : ∀ y ∈ scope.names, y.2 ≠ .cell
  loc : ∀ y ∈ scope.names, y.2 = .local → scope.names.lookup y.1 = some .local
  free : ∀ p ∈ scope.names, p.2 = .free → X.env.kindOf p.1 = some .cell ∨ X.env.kindOf p.1 = some .free
  len : M.length = X.N.length
  apart : ∀ (i : Nat) (y : Str), M[i]? = some y → scope.names.lookup y = none ∨ (X.N[i]? = some y ∧ scope.names.lookup y ≠ some .local)
section
variable {X : Cx} {ts M : List Str} {scope : Scope} {cl : List (Str × Addr)} {C : Addr} {fp : List Addr} {pins : List (Addr × Obj)} {σ : St} {H : Hp} {s s1 : Shared}
theorem lookup_mem {α : Type} {l : List (Str × α)} {x : Str} {a : α} (h : l.lookup x = some a) : (x, a) ∈ l := PySem.mem_of_lookup h
/-- the block begins: s is the state behind the iterator, s1 the one with the block's own dict at C -/
theorem Inv.blk (b : BlkOk X ts M scope) (I : Inv X pins σ H s) (h1 : ∀ y c, cl.lookup y = some c → X.env.cells.lookup y = some c) (h2 : ∀ y, (y, NameKind.free) ∈ scope.names → ∃ c, cl.lookup y = some c) (hf : ∀ b ∈ fp, FpOk X pins H b)
    (hlt : ∀ b ∈ fp, b < s.heap.objs.size) (hC : s.heap.objs.size ≤ C) {h' : Heap} {t : Nat} (k : ∀ b o, s.heap.get? b = some o → h'.get? b = some o) {m : Str → Option Value} (hn : h'.Ns C m) :
    Inv (X.blk ts M scope cl C fp s H) pins (List.replicate ts.length none ++ σ) H { s with heap := h', toks := t } := by
  have sub : ∀ a ∈ frs X.stack, a = X.env.locals ∨ a ∈ X.fs := fun a ha => List.mem_cons.mp (I.stkSub a ha)
  have hfree : ∀ y, scope.names.lookup y = some .free → X.env.kindOf y = some .cell ∨ X.env.kindOf y = some .free := fun y e => b.free (y, .free) (lookup_mem e) rfl
  have hk : ∀ {y : Str} {kd : NameKind}, (compEnvC scope cl C X.env).kindOf y = some kd → scope.names.lookup y = some kd ∨ (kd = .cell ∧ scope.names.lookup y = some .free) := fun e => relabel_lookup e
  refine ⟨⟨I.ok.mod, b.kind, I.ok.glob, I.ok.blt, hC, fun x y c e1 e2 => I.ok.inj x y c (h1 x c e1) (h1 y c e2), fun x hx => ?_, (fun x c z => absurd (show false = true from z) Bool.false_ne_true), I.ok.hd, I.ok.frames, .inl rfl, fun a ha => ⟨?_, fun x c e => (hf a ha).2.2.2.2.1 x c (h1 x c e)⟩,
    fun a o e => I.bs a o e, Nat.le_trans I.ok.bsz I.sz, fun a o e ha => ?_, fun a ha z => ?_, I.stack, I.stkFree⟩, rfl, I.bare, Un.kept k, ⟨m, hn, fun i y v e1 e2 e3 => ?_⟩, fun x c e => ?_, I.hok.fresh hC, fun x c e => I.freeC x c (h1 x c e), fun p hp => ?_, I.hok.kept k, ?_⟩
  · rcases hx with hx | hx
    · rcases hk hx with z | ⟨_, z⟩
      · exact absurd rfl (b.cell (x, .cell) (lookup_mem z))
      · exact h2 x (lookup_mem z)
    · rcases hk hx with z | ⟨z, _⟩
      · exact h2 x (lookup_mem z)
      · cases z
  · exact Nat.ne_of_lt (Nat.lt_of_lt_of_le (hlt a ha) hC)
  · rcases (hf a ha).2.2.2.1 with z | z
    · exact I.ok.noex a o e z
    · exact absurd (Nat.lt_of_lt_of_le (Nat.lt_of_lt_of_le (Heap.lt_size e) I.ok.bsz) z) (Nat.lt_irrefl _)
  · rcases sub a z with z | z
    · exact (hf a ha).2.1 z
    · exact (hf a ha).2.2.1 z
  · have hi : ts.length ≤ i := by
      by_cases q : ts.length ≤ i
      · exact q
      · rw [List.getElem?_append_left (by simpa using q), List.getElem?_replicate] at e2
        split at e2 <;> cases e2
    have e1M : M[i - ts.length]? = some y := by
      have z : (ts ++ M)[i]? = some y := e1
      rwa [List.getElem?_append_right hi] at z
    have e2' : σ[i - ts.length]? = some (some v) := by
      rw [List.getElem?_append_right (by simpa using hi), List.length_replicate] at e2
      exact e2
    obtain ⟨e1', nl⟩ : X.N[i - ts.length]? = some y ∧ scope.names.lookup y ≠ some .local := by
      rcases b.apart _ y e1M with z | z
      · exfalso
        rcases e3 with e3 | e3 | e3 <;> rcases hk e3 with q | ⟨_, q⟩ <;> (rw [z] at q; cases q)
      · exact z
    have fr : scope.names.lookup y = some .free := by
      rcases e3 with e3 | e3 | e3
      · rcases hk e3 with z | ⟨z, _⟩
        · exact absurd z nl
        · cases z
      · rcases hk e3 with z | ⟨_, z⟩
        · exact absurd rfl (b.cell (y, .cell) (lookup_mem z))
        · exact z
      · rcases hk e3 with z | ⟨z, _⟩
        · exact z
        · cases z
    obtain ⟨m0, hn0, hl0⟩ := I.loc
    have vis : Vis X.env.scope y := by
      rcases hfree y fr with z | z
      · exact .inr (.inl z)
      · exact .inr (.inr z)
    obtain ⟨u, r, l⟩ := hl0 _ y v e1' e2' vis
    obtain ⟨c, ec⟩ := h2 y (lookup_mem fr)
    refine ⟨u, r, .inr ⟨?_, c, ec, ?_⟩⟩
    · rcases e3 with e3 | e3 | e3
      · rcases hk e3 with z | ⟨z, _⟩
        · exact absurd z nl
        · cases z
      · exact .inl e3
      · exact .inr e3
    · rcases l with ⟨kl, _⟩ | ⟨_, c', ec', z⟩
      · rcases hfree y fr with q | q <;> (rw [kl] at q; cases q)
      · rw [h1 y c ec] at ec'
        cases ec'
        obtain ⟨o, ho, hd⟩ := z
        exact ⟨o, k _ _ ho, hd⟩
  · obtain ⟨v, o, ho, hd⟩ := I.cell x c (h1 x c e)
    exact ⟨v, o, k _ _ ho, hd⟩
  · obtain ⟨e, n, ne, nf, d⟩ := I.pin p hp
    refine ⟨k _ _ e, n, Nat.ne_of_lt (Nat.lt_of_lt_of_le (Heap.lt_size e) hC), fun z => ?_, d⟩
    rcases sub _ z with z | z
    · exact ne z
    · exact nf z
  · show _ = (ts ++ M).length
    rw [List.length_append, List.length_append, List.length_replicate, I.len, b.len]
/-- the block is over: the list at D is tracked from now on -/
theorem Inv.unblk {D : Addr} {ys : List V} {us : List Value} {n : Nat} {σ' : St} {H' : Hp} (I : Inv X pins σ H s) (J : Inv (X.blk ts M scope cl C fp s H) pins σ' H' s1) (hf : ∀ b ∈ fp, FpOk X pins H b) (hD : s.heap.objs.size ≤ D) (hn : H' D = none)
    (ho : s1.heap.get? D = some { cls := .type "list", data := .seq us.toArray n }) (r : Vals ys us) (hz : ys.length ≤ sizeLine) : Inv X pins σ (upd H' D (.lst ys)) s1 := by
  have u : Un (frs X.stack) fp H H' s.heap s1.heap := J.base
  have ndt : ∀ b o, H' b = some o → b ≠ D := fun b o e z => by rw [z, hn] at e; cases e
  refine I.call' (ch := fp) J.os ⟨u.keep, u.slot, fun b o e n hx => ?_, u.there, fun b xs e => ?_, fun b o xs e => ?_, fun b ps e => ?_⟩ (fun b o e => ?_) J.bare (fun b hb => ?_)
  · rw [upd_ne (Nat.ne_of_lt (Nat.lt_of_lt_of_le (Heap.lt_size e) hD))]
    exact u.free b o e n hx
  · have z := u.tups b xs e
    rw [upd_ne (ndt b _ z)]; exact z
  · have z := u.frzs b o xs e
    rw [upd_ne (ndt b _ z)]; exact z
  · obtain ⟨more, z⟩ := u.tbls b ps e
    exact ⟨more, by rw [upd_ne (ndt b _ z)]; exact z⟩
  · by_cases hb : b = D
    · subst hb
      rw [upd_same] at e
      cases e
      exact ⟨hz, us, n, r, ho⟩
    · rw [upd_ne hb] at e
      exact (J.hok b o e).stay (fun c v _ q => q) (fun c q => by rw [upd_ne (ndt c _ q)]; exact q) fun c xs q => by rw [upd_ne (ndt c _ q)]; exact q
  · obtain ⟨f0, f1, f2, f3, f4, f5⟩ := hf b hb
    exact ⟨f3, f1, f4, f5⟩
end

/-! ### the tests of a clause -/
def PIf (X : Cx) (ifs : List Expr) (t : TT) : Prop :=
  ∀ (pins : List (Addr × Obj)) (s : Shared) (σ : St) (H : Hp) (Q : Bool → Hp → Prop), Inv X pins σ H s → t σ H Q →
    wpAny (model X.prog X.w) X.A (forIn ifs true fun c r => if r = true then do let ok ← isTrue c X.env (eval c X.env); pure (ForInStep.yield ok) else pure (ForInStep.yield r)) (TP X pins σ Q) X.xe s
def tYes : TT := fun _ H Q => Q true H
theorem pif_nil {X : Cx} : PIf X [] tYes := fun _ _ _ H _ I h => wpAny_tests_nil ⟨H, I, h⟩
theorem pif_one {X : Cx} {c : Expr} {t : TT} (h : PT X c t) : PIf X [c] t := fun pins s σ H Q I q => wpAny_tests_one (h pins s σ H Q I q)

/-- a new list is told -/
def NewL (Q : VK) (ys : List V) (H : Hp) : Prop := ∀ p, H p = none → Q (.ref p) (upd H p (.lst ys))
/-- [elt for target in iter if ..]: W the invariant by the turn, a measure, the list so far -/
def tComp (k : Nat) (wi : TI) (g : TG) (tf : TT) (te : TE) : TE := fun σ H Q => wi σ H fun J H1 => ∃ W : Nat → Nat → List V → Hp → Prop, (∃ m, W 0 m [] H1) ∧ ∀ i m ys H2, W i m ys H2 →
  (J.stop i H2 ∧ NewL Q ys H2) ∨
  (J.go i H2 ∧ ys.length < sizeLine ∧ ∀ x H3, J.yld i H2 x H3 → g x (List.replicate k none ++ σ) H3 fun σ4 H4 => σ4.drop k = σ ∧ tf σ4 H4 fun b H5 =>
    if b = true then te σ4 H5 fun y H6 => ∃ m', m' < m ∧ W (i + 1) m' (ys ++ [y]) H6 else ∃ m', m' < m ∧ W (i + 1) m' ys H5)

section
variable {prog : Program} {w : World} {A : Around} {R : Result → Shared → Prop} {s : Shared}
/-- the loop of a comprehension, any target -/
theorem compLoop_any {elt target iter : Expr} {ifs : List Expr} {scope : Scope} {pos : Pos} {it acc : Value} {env : Env} (I : Nat → Shared → Prop)
    (turn : ∀ n s, I n s → wpAny (model prog w) A (pyNext it) (fun r s₁ => match r with
      | none => R (.ok .next) s₁
      | some v => wpAny (model prog w) A (letOwnedTupleGo target it v) (fun _ s₂ => wpAny (model prog w) A (assign target env v) (fun _ s₂ =>
          wpAny (model prog w) A (forIn ifs true fun c r => if r = true then do let ok ← isTrue c env (eval c env); pure (ForInStep.yield ok) else pure (ForInStep.yield r)) (fun ok s₃ =>
            if ok = true then wpAny (model prog w) A (eval elt env) (fun x s₄ =>
              wpAny (model prog w) A (call (.builtin "list.append") [acc, x]) (fun _ s₅ => ∃ m, m < n ∧ I m s₅) (notedBy (model prog w) A env fun e s' => R (.error e) s') s₄) (notedBy (model prog w) A env fun e s' => R (.error e) s') s₃
            else ∃ m, m < n ∧ I m s₃) (notedBy (model prog w) A env fun e s' => R (.error e) s') s₂) (notedBy (model prog w) A env fun e s' => R (.error e) s') s₂) (notedBy (model prog w) A env fun e s' => R (.error e) s') s₁) (notedBy (model prog w) A env fun e s' => R (.error e) s') s)
    (n : Nat) (h : I n s) :
    codeAny (model prog w) A (.compLoop (.ListComp elt [⟨target, iter, ifs, 0⟩] scope pos) 0 it acc env) R s := by
  refine codeAny_loop rfl I (fun n s hI => ?_) n h
  show wpAny _ A ((compTurn (.ListComp elt [⟨target, iter, ifs, 0⟩] scope pos) 0 it acc env).onRaise (fun x => do noteFrame x env; theTreesLotGoes x)) _ _ s
  refine wpAny_noted ?_
  rw [compTurn_list]
  refine wpAny_bind (wpAny_standAt (wpAny_bind (wpAny_mono (turn n s hI) (fun r s₁ h₁ => ?_) fun _ _ h' => h')))
  cases r with
  | none => exact wpAny_pure h₁
  | some v =>
    refine wpAny_bind (wpAny_mono h₁ (fun _ s₂ h₂ => ?_) fun _ _ h' => h')
    refine wpAny_bind (wpAny_mono h₂ (fun _ s₂ h₂ => wpAny_bind (wpAny_mono h₂ (fun ok s₃ h₃ => ?_) fun _ _ h' => h')) fun _ _ h' => h')
    cases ok with
    | false => exact wpAny_pure ⟨rfl, h₃⟩
    | true =>
      exact wpAny_bind (wpAny_bind (wpAny_mono h₃ (fun x s₄ h₄ => wpAny_bind (wpAny_mono h₄ (fun _ s₅ h₅ => wpAny_pure (wpAny_pure ⟨rfl, h₅⟩)) fun _ _ h' => h')) fun _ _ h' => h'))
end

section
variable {X : Cx} {ts : List Str} {elt tg iter : Expr} {ifs : List Expr} {scope : Scope} {pos : Pos} {wi : TI} {g : TG} {tf : TT} {te : TE}
/-- the block of a comprehension, from the iterator on -/
theorem blk_run {pins : List (Addr × Obj)} {σ : St} {H : Hp} {s : Shared} {cl : List (Str × Addr)} {it : Addr} {fp : List Addr} {tn : Nat → Heap → Prop} {J : It} {RR : Value → Addr → Result → Shared → Prop} {E : Value → Shared → Prop} {Q : VK}
    (b : BlkOk X ts M scope) (hc : X.calm = true) (hg : ∀ cl C fp s H, PG (X.blk ts M scope cl C fp s H) tg g) (hif : ∀ cl C fp s H, PIf (X.blk ts M scope cl C fp s H) ifs tf) (he : ∀ cl C fp s H, PE (X.blk ts M scope cl C fp s H) elt te)
    (I : Inv X pins σ H s) (h1 : ∀ y c, cl.lookup y = some c → X.env.cells.lookup y = some c) (h2 : ∀ y, (y, NameKind.free) ∈ scope.names → ∃ c, cl.lookup y = some c) (T : Turn X.prog X.w X.K tg J fp it tn) (st : tn 0 s.heap) (hf : ∀ b ∈ fp, FpOk X pins H b)
    (hw : ∃ W : Nat → Nat → List V → Hp → Prop, (∃ m, W 0 m [] H) ∧ ∀ i m ys H2, W i m ys H2 →
      (J.stop i H2 ∧ NewL Q ys H2) ∨
      (J.go i H2 ∧ ys.length < sizeLine ∧ ∀ x H3, J.yld i H2 x H3 → g x (List.replicate ts.length none ++ σ) H3 fun σ4 H4 => σ4.drop ts.length = σ ∧ tf σ4 H4 fun b H5 =>
        if b = true then te σ4 H5 fun y H6 => ∃ m', m' < m ∧ W (i + 1) m' (ys ++ [y]) H6 else ∃ m', m' < m ∧ W (i + 1) m' ys H5))
    (fin : ∀ D C s1 H2 ys m, Inv X pins σ (upd H2 D (.lst ys)) s1 → s1.heap.Ns C m → (upd H2 D (.lst ys)) C = none → C ≠ X.env.locals → X.s₀.heap.objs.size ≤ C → (∀ x c, X.env.cells.lookup x = some c → c ≠ C) → (∀ p ∈ X.pn ++ pins, p.1 ≠ C) →
      Q (.ref D) (upd H2 D (.lst ys)) → RR (.ref D) C (.ok .next) s1) :
    wpAny (model X.prog X.w) X.A (newList []) (fun acc s₃ => wpAny (model X.prog X.w) X.A (newFunctionEnv scope X.env.globals cl [] X.env.qual none .none (some X.env)) (fun cenv s₄ =>
      codeAny (model X.prog X.w) X.A (.compStart (.ListComp elt [⟨tg, iter, ifs, 0⟩] scope pos) 0 (.ref it) acc { cenv with scope := relabel scope X.env }) (RR acc cenv.locals) s₄) E s₃) E s := by
  obtain ⟨W, ⟨m0, w0⟩, turn⟩ := hw
  refine wpAny_newObj_type (wpAny_newFunctionEnv b.cell (by intro y hy; simp at hy) (fun h₁ hns₁ hsb₁ => ?_) b.kind)
  dsimp only at hns₁ hsb₁ ⊢
  generalize hH2 : s.heap.push { cls := .type "list", dict := none, data := .seq ([] : List Value).toArray } = G2 at hns₁ hsb₁ ⊢
  have hC : G2.objs.size = s.heap.objs.size + 1 := by rw [← hH2, Heap.size_push]
  have hDC : s.heap.objs.size ≠ G2.objs.size := by rw [hC]; exact Nat.ne_of_lt (Nat.lt_succ_self _)
  have hCle : s.heap.objs.size ≤ G2.objs.size := by rw [hC]; exact Nat.le_succ _
  have below : ∀ b, b < s.heap.objs.size → b ≠ G2.objs.size ∧ b ≠ s.heap.objs.size := fun b hb => ⟨by rw [hC]; exact Nat.ne_of_lt (Nat.lt_succ_of_lt hb), Nat.ne_of_lt hb⟩
  have old : ∀ b o, s.heap.get? b = some o → h₁.get? b = some o := fun b o e => hsb₁.extBut b o (below b (Heap.lt_size e)).1 (Heap.get?_push_of_some _ (hH2 ▸ Heap.get?_push_of_some _ e))
  have hacc : h₁.get? s.heap.objs.size = some { cls := .type "list", data := .seq ([] : List Value).toArray 0 } := hsb₁.extBut _ _ hDC (Heap.get?_push_of_some _ (hH2 ▸ Heap.get?_push_size _ rfl))
  have hlt : ∀ b ∈ fp, b < s.heap.objs.size := fun b hb => by
    obtain ⟨o, e, _⟩ := T.obj 0 _ st b hb
    exact Heap.lt_size e
  have hDf : s.heap.objs.size ∉ fp := fun hm => Nat.lt_irrefl _ (hlt _ hm)
  have cellLt : ∀ x c, X.env.cells.lookup x = some c → c < s.heap.objs.size := fun x c e => by
    obtain ⟨v, z⟩ := I.cell x c e
    exact z.lt
  have pinLt : ∀ p ∈ X.pn ++ pins, p.1 < s.heap.objs.size := fun p hp => Heap.lt_size (I.pin p hp).1
  have J0 : Inv (X.blk ts M scope cl G2.objs.size fp s H) pins (List.replicate ts.length none ++ σ) H { s with heap := h₁, toks := s.toks + ([] : List (Str × Value)).length } := I.blk b h1 h2 hf hlt hCle old hns₁
  -- the objects of the block, asked of the block's own context
  have stat : ∀ {H' : Hp} {ps : List (Addr × Obj)}, (∀ b ∈ fp, H' b = none) → (∀ p ∈ ps, p ∈ pins ∨ p.1 = s.heap.objs.size) → ∀ b ∈ fp, FpOk (X.blk ts M scope cl G2.objs.size fp s H) ps H' b := fun {H' ps} hn hp b hb => by
    refine ⟨hn b hb, (below b (hlt b hb)).1, J0.ok.exfs b hb, .inl hb, fun x c e => (hf b hb).2.2.2.2.1 x c (h1 x c e), fun p hm => ?_⟩
    rcases List.mem_append.mp hm with z | z
    · exact (hf b hb).2.2.2.2.2 p (List.mem_append_left _ z)
    · rcases hp p z with z | z
      · exact (hf b hb).2.2.2.2.2 p (List.mem_append_right _ z)
      · rw [z]; exact Ne.symm (below b (hlt b hb)).2
  have dpin : ∀ {us : List Value} {n : Nat} {σ' : St} {H' : Hp} {s' : Shared}, Inv (X.blk ts M scope cl G2.objs.size fp s H) pins σ' H' s' → s'.heap.get? s.heap.objs.size = some { cls := .type "list", data := .seq us.toArray n } → H' s.heap.objs.size = none →
      Inv (X.blk ts M scope cl G2.objs.size fp s H) (pins ++ [(s.heap.objs.size, { cls := .type "list", data := .seq us.toArray n })]) σ' H' s' := fun {us n σ' H' s'} Jn e hn => Jn.pins_of fun p hp => by
    rcases List.mem_append.mp hp with z | z
    · exact Jn.pin p (List.mem_append_right _ z)
    · have z' := List.mem_singleton.mp z
      subst z'
      refine ⟨e, hn, hDC, fun z => ?_, fun v z => nomatch z⟩
      obtain ⟨_, o, ho, _⟩ := I.stack.mem z
      exact absurd (Heap.lt_size ho) (Nat.lt_irrefl _)
  have loop : ∀ s₃ : Shared, s₃ = { s with heap := h₁, toks := s.toks + ([] : List (Str × Value)).length } →
      codeAny (model X.prog X.w) X.A (.compLoop (.ListComp elt [⟨tg, iter, ifs, 0⟩] scope pos) 0 (.ref it) (.ref s.heap.objs.size) (compEnvC scope cl G2.objs.size X.env)) (RR (.ref s.heap.objs.size) G2.objs.size) s₃ := by
    rintro s₃ rfl
    refine compLoop_any (fun n s' => ∃ i ys us c H', Inv (X.blk ts M scope cl G2.objs.size fp s H) pins (List.replicate ts.length none ++ σ) H' s' ∧ tn i s'.heap ∧ (∀ b ∈ fp, H' b = none) ∧
      s'.heap.get? s.heap.objs.size = some { cls := .type "list", data := .seq us.toArray c } ∧ H' s.heap.objs.size = none ∧ Vals ys us ∧ ys.length ≤ sizeLine ∧ W i n ys H') ?_ m0
      ⟨0, [], [], 0, H, J0, T.keep _ _ _ st fun b _ o e => old b o e, fun b hb => (hf b hb).1, hacc, I.hok.fresh (Nat.le_refl _), .nil, Nat.zero_le _, w0⟩
    rintro n s' ⟨i, ys, us, c, H', J', st', fr', ho', hn', r', hz', w'⟩
    have Jp := dpin J' ho' hn'
    have pinOk : ∀ p ∈ pins ++ [(s.heap.objs.size, ({ cls := .type "list", data := .seq us.toArray c } : Obj))], p ∈ pins ∨ p.1 = s.heap.objs.size := fun p hp => (List.mem_append.mp hp).imp id fun z => by rw [List.mem_singleton.mp z]
    rcases turn i n ys H' w' with ⟨stop, q⟩ | ⟨go, hsz, step⟩
    · refine wpAny_mono (T.done (X.blk ts M scope cl G2.objs.size fp s H) rfl rfl rfl hc i _ s' _ H' _ Jp (stat fr' pinOk) st' stop) (fun r s4 ⟨hr, J4⟩ => ?_) fun _ _ z => z
      subst hr
      have J4' : Inv (X.blk ts M scope cl G2.objs.size fp s H) pins (List.replicate ts.length none ++ σ) H' s4 := J4.unpinned
      have e4 := (J4.pin (s.heap.objs.size, _) (List.mem_append_right _ (List.mem_append_right _ (List.mem_singleton.mpr rfl)))).1
      obtain ⟨m, hm, _⟩ := J4'.loc
      refine fin _ _ s4 H' ys m (I.unblk J4' hf (Nat.le_refl _) hn' e4 r' hz') hm ?_ (Ne.symm (Nat.ne_of_lt (Nat.lt_of_lt_of_le I.lt hCle))) (Nat.le_trans I.sz hCle) (fun x c e => Nat.ne_of_lt (Nat.lt_of_lt_of_le (cellLt x c e) hCle)) (fun p hp => Nat.ne_of_lt (Nat.lt_of_lt_of_le (pinLt p hp) hCle)) (q _ hn')
      rw [upd_ne (Ne.symm hDC)]
      exact J4'.free
    · refine wpAny_mono (T.item (X.blk ts M scope cl G2.objs.size fp s H) rfl rfl rfl hc i _ s' _ H' _ Jp (stat fr' pinOk) st' go) (fun r s4 ⟨u, hr, h4⟩ => ?_) fun _ _ z => z
      subst hr
      refine wpAny_mono h4 (fun _ s5 ⟨x, H5, I5, r5, y5, st5, fr5⟩ => ?_) fun _ _ z => z
      have I5' := I5.pinned (stat fr5 pinOk) (T.obj _ _ st5)
      refine wpAny_mono (hg cl G2.objs.size fp s H _ s5 _ H5 x u _ I5' r5 (step x H5 y5)) (fun _ s6 ⟨σ6, H6, I6, q6d, q6⟩ => ?_) fun _ _ z => False.elim z
      refine wpAny_mono (hif cl G2.objs.size fp s H _ s6 σ6 H6 _ I6 q6) (fun ok s7 ⟨H7, I7, q7⟩ => ?_) fun _ _ z => False.elim z
      have weak : ∀ {ps : List (Addr × Obj)} {H8 : Hp} {s8 : Shared}, Inv (X.blk ts M scope cl G2.objs.size fp s H) ps σ6 H8 s8 → Inv (X.blk ts M scope cl G2.objs.size fp s H) ps (List.replicate ts.length none ++ σ) H8 s8 := fun {ps H8 s8} K8 => by
        have len6 : σ6.length = (ts ++ M).length := K8.len
        rw [List.length_append, b.len] at len6
        refine K8.weak (by rw [List.length_append, List.length_replicate, len6, I.len]) fun j v e => ?_
        have hj : ts.length ≤ j := by
          by_cases q : ts.length ≤ j
          · exact q
          · rw [List.getElem?_append_left (by simpa using q), List.getElem?_replicate] at e
            split at e <;> cases e
        rw [List.getElem?_append_right (by simpa using hj), List.length_replicate, ← q6d, List.getElem?_drop] at e
        rwa [show ts.length + (j - ts.length) = j by omega] at e
      have back : ∀ {H8 : Hp} {s8 : Shared}, Inv (X.blk ts M scope cl G2.objs.size fp s H) (pins ++ [(s.heap.objs.size, ({ cls := .type "list", data := .seq us.toArray c } : Obj))] ++ pinsAt fp s5.heap) σ6 H8 s8 →
          Inv (X.blk ts M scope cl G2.objs.size fp s H) pins (List.replicate ts.length none ++ σ) H8 s8 ∧ tn (i + 1) s8.heap ∧ (∀ b ∈ fp, H8 b = none) ∧ s8.heap.get? s.heap.objs.size = some { cls := .type "list", data := .seq us.toArray c } ∧ H8 s.heap.objs.size = none := fun {H8 s8} K8 => by
        have pD := K8.pin (s.heap.objs.size, _) (List.mem_append_right _ (List.mem_append_left _ (List.mem_append_right _ (List.mem_singleton.mpr rfl))))
        refine ⟨(weak K8).unpinned.unpinned, T.keep _ _ _ st5 fun b hb o e => (K8.pin (b, o) (List.mem_append_right _ (List.mem_append_right _ (mem_pinsAt hb e)))).1, fun b hb => ?_, pD.1, pD.2.1⟩
        obtain ⟨o, e, _⟩ := T.obj _ _ st5 b hb
        exact (K8.pin (b, o) (List.mem_append_right _ (List.mem_append_right _ (mem_pinsAt hb e)))).2.1
      cases ok with
      | false =>
        obtain ⟨m', hm', w7⟩ := q7
        obtain ⟨a1, a2, a3, a4, a5⟩ := back I7
        exact ⟨m', hm', i + 1, ys, us, c, H7, a1, a2, a3, a4, a5, r', hz', w7⟩
      | true =>
        refine wpAny_mono (he cl G2.objs.size fp s H _ s7 σ6 H7 _ I7 q7) (fun yv s8 ⟨y, H8, I8, r8, m', hm', w8⟩ => ?_) fun _ _ z => False.elim z
        obtain ⟨a1, a2, a3, a4, a5⟩ := back I8
        refine append_at (hsz := by rw [List.size_toArray, ← r'.length]; exact hz') a4 fun h9 hs9 hD9 => ?_
        have e9 : us.toArray.push yv = (us ++ [yv]).toArray := by simp
        rw [e9] at hD9
        refine ⟨m', hm', i + 1, ys ++ [y], us ++ [yv], c + 1, H8, ?_, T.keep _ _ _ a2 fun b hb o e => hs9.extBut b o (fun z => hDf (z ▸ hb)) e, a3, hD9, a5, r'.append (.cons r8 .nil), ?_, w8⟩
        · refine a1.turned (t' := s8.toks) (it := s.heap.objs.size) (fun b o hb e => hs9.extBut b o hb e) a5 hDC (.inr (Nat.le_refl _)) (fun x c e => Nat.ne_of_lt (cellLt x c (h1 x c e))) fun p hp => Nat.ne_of_lt (pinLt p hp)
        · rw [List.length_append, List.length_singleton]; omega
  exact codeAny_compStart_list (loop _ rfl) (T.self _ 0 _ _ _ (T.keep _ _ _ st fun b _ o e => old b o e) (loop _ rfl))

/-- as a value -/
theorem pe_lcG (b : BlkOk X ts M scope) (hc : X.calm = true) (hi : PI X tg iter wi) (hg : ∀ cl C fp s H, PG (X.blk ts M scope cl C fp s H) tg g) (hif : ∀ cl C fp s H, PIf (X.blk ts M scope cl C fp s H) ifs tf) (he : ∀ cl C fp s H, PE (X.blk ts M scope cl C fp s H) elt te)
    (hs : ∀ x, foldedSetIterable iter X.env x = pure x := by intro _; rfl) : PE X (.ListComp elt [⟨tg, iter, ifs, 0⟩] scope pos) (tComp ts.length wi g tf te) := by
  intro pins s σ H Q I h
  obtain ⟨cl, hcl, h1, h2⟩ := closure_of (scope := scope) (env := X.env) fun p hp hk => I.ok.has p.1 (b.free p hp hk)
  rw [eval_ListComp]
  refine wpAny_comprehension_free (use := none) rfl hs hcl b.kind b.loc (thn (hi pins s σ H _ I h) fun v s1 h' => thn h' fun itv s2 h2' => ?_)
  obtain ⟨it, fp, tn, J, H2, e, I2, T, st2, f2, hw⟩ := h2'
  subst e
  refine blk_run (RR := fun acc C => compPost (model X.prog X.w) X.A X.xe none (EP X pins σ Q) acc C) b hc hg hif he I2 h1 h2 T st2 f2 hw ?_
  intro D C s3 H3 ys m I3 hn hC hL hsz hcell hpin q
  exact ⟨m, hn, fun h' hs' => ⟨.ref D, _, I3.turned (t' := s3.toks) (it := C) (fun b o hb e => hs'.extBut b o hb e) hC hL (.inr hsz) hcell hpin, rfl, q⟩⟩
/-- name = [..] -/
theorem ps_lcG {i : Nat} {y : Str} {py spos : Pos} (hN : X.N.Nodup) (hy : X.N[i]? = some y) (hk : X.env.kindOf y = some .local) (b : BlkOk X ts M scope) (hc : X.calm = true) (hi : PI X tg iter wi)
    (hg : ∀ cl C fp s H, PG (X.blk ts M scope cl C fp s H) tg g) (hif : ∀ cl C fp s H, PIf (X.blk ts M scope cl C fp s H) ifs tf) (he : ∀ cl C fp s H, PE (X.blk ts M scope cl C fp s H) elt te)
    (hsw : swapsWith (.ListComp elt [⟨tg, iter, ifs, 0⟩] scope pos) (some (.Name y py)) spos.line X.env = pure true) (hs : ∀ x, foldedSetIterable iter X.env x = pure x := by intro _; rfl) :
    PS X (.Assign [.Name y py] (.ListComp elt [⟨tg, iter, ifs, 0⟩] scope pos) spos) (tAsg (tComp ts.length wi g tf te) (gName i)) := by
  intro pins s σ H D I h
  obtain ⟨cl, hcl, h1, h2⟩ := closure_of (scope := scope) (env := X.env) fun p hp hk => I.ok.has p.1 (b.free p hp hk)
  rw [exec_Assign_Name_used _ _ _ _ hsw]
  refine wpAny_bind (wpAny_standAt (wpAny_bind ?_))
  show wpAny _ X.A (do let _ ← comprehension (.ListComp elt [⟨tg, iter, ifs, 0⟩] scope pos) scope X.env _ (newList []) false (eval iter X.env) (some (assign (.Name y py) X.env))) _ _ s
  refine wpAny_bind (wpAny_mono (wpAny_comprehension_free (use := some (assign (.Name y py) X.env)) (Q := fun _ s' => SP X pins D .next s') rfl hs hcl b.kind b.loc
    (thn (hi pins s σ H _ I h) fun v s1 h' => thn h' fun itv s2 h2' => ?_)) (fun _ s' hq => wpAny_pure (wpAny_pure hq)) fun _ _ e => e)
  obtain ⟨it, fp, tn, J, H2, e, I2, T, st2, f2, hw⟩ := h2'
  subst e
  refine blk_run (RR := fun acc C => compPost (model X.prog X.w) X.A X.xe (some (assign (.Name y py) X.env)) (fun _ s' => SP X pins D .next s') acc C) (Q := fun v H1 => gName i v σ H1 D.nx) b hc hg hif he I2 h1 h2 T st2 f2 hw ?_
  intro D' C s3 H3 ys m I3 hn hC hL hsz hcell hpin q
  show wpAny _ X.A (assign (.Name y py) X.env (.ref D')) _ _ _
  refine wpAny_assign_Name (store_ok2 (v := .ref D') I3 hN hy (.inl hk) rfl (fun s4 I4 ⟨a, hs4, ha⟩ => ?_) (.inr hk))
  have hCa : C ≠ a := by
    rcases ha with rfl | ha
    · exact hL
    · exact Ne.symm (hcell y a ha)
  exact ⟨m, hn.sameBut hs4 hCa, fun h' hs' => ⟨_, _, I4.turned (t' := s4.toks) (it := C) (fun b o hb e => hs'.extBut b o hb e) hC hL (.inr hsz) hcell hpin, q⟩⟩
end

/-! ### the forms one uses: one name as the target -/
theorem blk_mk {X : Cx} {ts : List Str} {scope sc : Scope} {N : List Str} (eN : X.N = N) (es : X.env.scope = sc) (h1 : scope.kind = .function) (h2 : (scope.names.all fun y => decide (y.2 ≠ .cell)) = true) (h3 : (scope.names.all fun y => decide (y.2 = .local → scope.names.lookup y.1 = some .local)) = true)
    (h4 : (scope.names.all fun p => decide (p.2 = .free → sc.names.lookup p.1 = some .cell ∨ sc.names.lookup p.1 = some .free)) = true) (h5 : (N.all fun y => decide (scope.names.lookup y ≠ some .local)) = true) : BlkOk X ts N scope := by
  subst eN es
  exact ⟨h1, fun y hy => of_decide_eq_true (List.all_eq_true.mp h2 y hy), fun y hy => of_decide_eq_true (List.all_eq_true.mp h3 y hy), fun y hy => of_decide_eq_true (List.all_eq_true.mp h4 y hy), rfl, fun i y hy => .inr ⟨hy, of_decide_eq_true (List.all_eq_true.mp h5 y (List.mem_of_getElem? hy))⟩⟩
/-- what the block of one name is asked, all of it read off the text -/
structure Lc (N : List Str) (sc scope : Scope) (x : Str) : Prop where
  nd : ([x] ++ N).Nodup
  kind : scope.kind = .function
  own : scope.names.lookup x = some .local
  cell : (scope.names.all fun y => decide (y.2 ≠ .cell)) = true
  loc : (scope.names.all fun y => decide (y.2 = .local → scope.names.lookup y.1 = some .local)) = true
  free : (scope.names.all fun p => decide (p.2 = .free → sc.names.lookup p.1 = some .cell ∨ sc.names.lookup p.1 = some .free)) = true
  apart : (N.all fun y => decide (scope.names.lookup y ≠ some .local)) = true
section
variable {X : Cx} {N : List Str} {sc scope : Scope} {x : Str} {px pos : Pos} {elt iter : Expr} {ifs : List Expr} {wi : TI} {tf : TT} {te : TE}
theorem Lc.ok (L : Lc N sc scope x) (eN : X.N = N) (es : X.env.scope = sc) : BlkOk X [x] N scope := blk_mk eN es L.kind L.cell L.loc L.free L.apart
theorem Lc.tg (L : Lc N sc scope x) (eN : X.N = N) (cl : List (Str × Addr)) (C : Addr) (fp : List Addr) (s : Shared) (H : Hp) : PG (X.blk [x] N scope cl C fp s H) (.Name x px) (gName 0) :=
  pg_name (X := X.blk [x] N scope cl C fp s H) (i := 0) (by show ([x] ++ N).Nodup; exact L.nd) rfl (.inl (lookup_relabel_local L.own)) (.inr (lookup_relabel_local L.own))
theorem pe_lc (L : Lc N sc scope x) (eN : X.N = N) (es : X.env.scope = sc) (hc : X.calm = true) (hi : PI X (.Name x px) iter wi) (hif : ∀ cl C fp s H, PIf (X.blk [x] N scope cl C fp s H) ifs tf) (he : ∀ cl C fp s H, PE (X.blk [x] N scope cl C fp s H) elt te)
    (hs : ∀ x, foldedSetIterable iter X.env x = pure x := by intro _; rfl) : PE X (.ListComp elt [⟨.Name x px, iter, ifs, 0⟩] scope pos) (tComp 1 wi (gName 0) tf te) :=
  pe_lcG (ts := [x]) (M := N) (L.ok eN es) hc hi (fun cl C fp s H => L.tg eN cl C fp s H) hif he hs
theorem ps_lc {i : Nat} {y : Str} {py spos : Pos} (hN : X.N.Nodup) (hy : X.N[i]? = some y) (hk : X.env.kindOf y = some .local) (L : Lc N sc scope x) (eN : X.N = N) (es : X.env.scope = sc) (hc : X.calm = true) (hi : PI X (.Name x px) iter wi)
    (hif : ∀ cl C fp s H, PIf (X.blk [x] N scope cl C fp s H) ifs tf) (he : ∀ cl C fp s H, PE (X.blk [x] N scope cl C fp s H) elt te)
    (hsw : swapsWith (.ListComp elt [⟨.Name x px, iter, ifs, 0⟩] scope pos) (some (.Name y py)) spos.line X.env = pure true := by with_unfolding_all rfl) (hs : ∀ x, foldedSetIterable iter X.env x = pure x := by intro _; rfl) :
    PS X (.Assign [.Name y py] (.ListComp elt [⟨.Name x px, iter, ifs, 0⟩] scope pos) spos) (tAsg (tComp 1 wi (gName 0) tf te) (gName i)) :=
  ps_lcG (ts := [x]) (M := N) hN hy hk (L.ok eN es) hc hi (fun cl C fp s H => L.tg eN cl C fp s H) hif he hsw hs
end
end L2

namespace L2
open PySem PySem.Spec PyProof.Rows
/-- an exception that is not wished does not come -/
theorem passb0 {X : Cx} {P : Program} {w : World} : Passes (CXb P w) X E0 := fun _ _ _ _ _ _ _ h => by
  obtain ⟨_, _, _, _, _, q⟩ := h
  exact q.elim
theorem at_upd {H : Hp} {l p : Addr} {o u : HO} (h : H l = some o) (hp : H p = none) : upd H p u l = some o := by
  rw [upd_ne (ne_of_none h hp)]; exact h
theorem sq_upd {K : PySem.W.Frag} {H : Hp} {l p : Addr} {xs : List V} {u : HO} (h : SqL K H l xs) (hp : H p = none) : SqL K (upd H p u) l xs := by
  rcases h with (h | ⟨o, h⟩) | h
  · exact .inl (.inl (at_upd h hp))
  · exact .inl (.inr ⟨o, at_upd h hp⟩)
  · exact .inr h
theorem same_upd {H : Hp} {p : Addr} {u : HO} (hp : H p = none) : Same H (upd H p u) := fun _ _ h => at_upd h hp
theorem same_upd' {H H1 : Hp} {p : Addr} {u : HO} (h : Same H H1) (hp : H1 p = none) : Same H (upd H1 p u) := h.trans (same_upd hp)
theorem kf {K : PySem.W.Frag} {t c : Value} {r : List Value} (h : PySem.W.kitOne K t c = some false) (h2 : PySem.W.kitAny K t r = some false) : PySem.W.kitAny K t (c :: r) = some false := by
  unfold PySem.W.kitAny
  rw [h]
  exact h2
theorem kn {K : PySem.W.Frag} {t : Value} : PySem.W.kitAny K t [] = some false := rfl
theorem kt {K : PySem.W.Frag} {t c : Value} {r : List Value} (h : PySem.W.kitOne K t c = some true) : PySem.W.kitAny K t (c :: r) = some true := by
  unfold PySem.W.kitAny
  rw [h]
theorem szOk {n : Nat} (h : n ≤ 16777216) : n ≤ sizeLine := by rw [sizeLine_eq]; exact h
theorem szLt {n : Nat} (h : n < 16777216) : n < sizeLine := by rw [sizeLine_eq]; exact h
/-- the ints of a cut of ints -/
theorem cut_ints (ns : List Int) (lo hi : Option Int) : cutV (ns.map V.int) lo hi = ((ns.drop (HT.sIx ns.length 0 lo)).take (HT.sIx ns.length ns.length hi - HT.sIx ns.length 0 lo)).map V.int := by
  unfold cutV
  rw [List.length_map, ← List.map_drop, ← List.map_take]
theorem get_map_int {ns : List Int} {i : Nat} {x : V} (h : (ns.map V.int)[i]? = some x) : ∃ n, x = .int n ∧ ns[i]? = some n := by
  rw [List.getElem?_map] at h
  cases e : ns[i]? with
  | none => rw [e] at h; cases h
  | some n => rw [e] at h; exact ⟨n, (Option.some.inj h).symm, rfl⟩
/-- a comprehension over a list of which nothing is made but values -/
theorem comp_list {K : PySem.W.Frag} {a : Addr} {xs : List V} {k : Nat} {g : TG} {te : TE} {σ : St} {H : Hp} {Q : VK} (f : V → V) (hq : SqL K H a xs) (hl : xs.length ≤ sizeLine)
    (hs : ∀ x H', x ∈ xs → Same H H' → ∀ R : V → Hp → Prop, (∀ H2, Same H' H2 → R (f x) H2) → g x (List.replicate k none ++ σ) H' fun σ4 H4 => σ4.drop k = σ ∧ te σ4 H4 R)
    (hd : ∀ H', Same H H' → NewL Q (xs.map f) H') :
    ∃ W : Nat → Nat → List V → Hp → Prop, (∃ m, W 0 m [] H) ∧ ∀ i m ys H2, W i m ys H2 →
      ((Itl K a).stop i H2 ∧ NewL Q ys H2) ∨
      ((Itl K a).go i H2 ∧ ys.length < sizeLine ∧ ∀ x H3, (Itl K a).yld i H2 x H3 → g x (List.replicate k none ++ σ) H3 fun σ4 H4 => σ4.drop k = σ ∧ tYes σ4 H4 fun b H5 =>
        if b = true then te σ4 H5 fun y H6 => ∃ m', m' < m ∧ W (i + 1) m' (ys ++ [y]) H6 else ∃ m', m' < m ∧ W (i + 1) m' ys H5) := by
  refine ⟨fun i m ys H2 => m = xs.length - i ∧ i ≤ xs.length ∧ ys = (xs.take i).map f ∧ Same H H2, ⟨xs.length, by simp, Nat.zero_le _, rfl, Same.refl H⟩, ?_⟩
  rintro i m ys H2 ⟨rfl, hi, rfl, sm⟩
  have q2 : SqL K H2 a xs := sm.seq hq
  by_cases hlt : i < xs.length
  · refine .inr ⟨⟨xs, xs[i], q2, by simp [hlt]⟩, ?_, fun x H3 y => ?_⟩
    · rw [List.length_map, List.length_take]; omega
    · obtain ⟨e, y⟩ := y
      subst e
      have ex : xs[i]? = some x := y xs q2
      refine hs x _ (List.mem_of_getElem? ex) sm _ fun H4 s4 => ?_
      refine ⟨xs.length - (i + 1), by omega, rfl, hlt, ?_, sm.trans s4⟩
      rw [List.take_add_one, ex, List.map_append]
      rfl
  · have e : i = xs.length := by omega
    subst e
    refine .inl ⟨⟨xs, q2, Nat.le_refl _⟩, ?_⟩
    rw [List.take_length]
    exact hd H2 sm
end L2
namespace L2
open PySem PySem.Spec PyProof.Rows
/-- two pieces of a block with an assertion between them -/
def tCut (t u : TS) : TS := fun D σ H => ∃ N : St → Hp → Prop, t { D with nx := N } σ H ∧ ∀ σ' H', N σ' H' → u D σ' H'
theorem pss_cut {X : Cx} {st : Stmt} {rest : List Stmt} {t u : TS} (h1 : PS X st t) (h2 : PSs X rest u) : PSs X (st :: rest) (tCut t u) := by
  intro pins s σ H D I h
  obtain ⟨N, hN, hu⟩ := h
  refine wpAny_execs_cons (thn (h1 pins s σ H { D with nx := N } I hN) fun f s1 q => ?_)
  cases f with
  | next =>
    obtain ⟨σ', H', I', q⟩ := q
    exact h2 pins s1 σ' H' D I' (hu σ' H' q)
  | ret v => exact q
  | brk => exact q
  | cont => exact q
end L2

/-! ## sum, all, any of a list; a loop over a text -/
namespace L2
open PySem PySem.Spec PyProof.Rows
theorem range_getD {α : Type} (l : List α) (d : α) : (List.range l.length).map (fun i => l.getD i d) = l := by
  refine List.ext_getElem (by simp) fun i h1 h2 => ?_
  simp [List.getD_eq_getElem?_getD, h2]
theorem all_range (bs : List Bool) : (List.range bs.length).all (fun i => bs.getD i true) = bs.all id := by
  have e := range_getD bs true
  conv => rhs; rw [← e]
  rw [List.all_map]
  rfl
theorem any_range (bs : List Bool) : (List.range bs.length).any (fun i => bs.getD i false) = bs.any id := by
  have e := range_getD bs false
  conv => rhs; rw [← e]
  rw [List.any_map]
  rfl
theorem preSum_take (ns : List Int) : ∀ i, i ≤ ns.length → preSum (fun i => ns.getD i 0) i = (ns.take i).sum
  | 0, _ => rfl
  | i + 1, h => by
    have e : ns[i]? = some (ns.getD i 0) := by
      rw [List.getD_eq_getElem?_getD, List.getElem?_eq_getElem (by omega)]; rfl
    rw [List.take_add_one, e, List.sum_append]
    show preSum (fun i => ns.getD i 0) i + ns.getD i 0 = _
    rw [preSum_take ns i (by omega)]
    simp
section
variable {X : Cx}
theorem list_lt {h : Heap} {p : Addr} {its : Array Value} (l : h.IsList p its) : p < h.objs.size := by
  obtain ⟨o, e, _⟩ := l
  exact Heap.lt_size e
theorem item_bl {bs : List Bool} {its : List Value} (r : Vals (bs.map V.bl) its) {d : Bool} {i : Nat} {v : Value} (h : its.toArray[i]? = some v) : v = .bool (bs.getD i d) := by
  have h' : its[i]? = some v := by simpa using h
  have hl := r.length
  rw [List.length_map] at hl
  have hi : i < its.length := (List.getElem?_eq_some_iff.mp h').1
  obtain ⟨u, e1, r1⟩ := r.get (i := i) (x := .bl (bs.getD i d)) (by
    rw [List.getElem?_map, List.getElem?_eq_getElem (by omega), List.getD_eq_getElem?_getD, List.getElem?_eq_getElem (by omega)]; rfl)
  rw [h'] at e1
  cases e1
  exact r1
theorem item_int {ns : List Int} {its : List Value} (r : Vals (ns.map V.int) its) {i : Nat} {v : Value} (h : its.toArray[i]? = some v) : ∃ t, v = .int (ns.getD i 0) t := by
  have h' : its[i]? = some v := by simpa using h
  have hl := r.length
  rw [List.length_map] at hl
  have hi : i < its.length := (List.getElem?_eq_some_iff.mp h').1
  obtain ⟨u, e1, r1⟩ := r.get (i := i) (x := .int (ns.getD i 0)) (by
    rw [List.getElem?_map, List.getElem?_eq_getElem (by omega), List.getD_eq_getElem?_getD, List.getElem?_eq_getElem (by omega)]; rfl)
  rw [h'] at e1
  cases e1
  exact r1
theorem call_all (hc : X.calm = true) : CallR X (.builtin "all") (fun xs H Q => ∃ (p : Addr) (bs : List Bool), xs = [.ref p] ∧ SqL X.K H p (bs.map V.bl) ∧ Q (.bl (bs.all id)) H) := by
  intro pins s σ H xs us Q I r h
  obtain ⟨p, bs, rfl, hq, q⟩ := h
  obtain ⟨u, rfl, rx⟩ := vals1 r
  cases rx
  obtain ⟨its, r', pl, hz⟩ := I.list hq
  have hlt := list_lt pl.isList
  have hlen : its.toArray.size = bs.length := by rw [List.size_toArray, ← r'.length, List.length_map]
  refine call_all_walk (wpAny_pyIter_list pl.isList ?_)
  refine ⟨s.heap.objs.size, _, _, _, _, _, fun i => bs.getD i true, rfl, Walks.list (A := X.A.in1) (I.ok.hd hc) s.heap.objs.size p (Nat.ne_of_lt hlt) its.toArray, ⟨⟨_, Heap.get?_push_size _ rfl, rfl, rfl⟩, pl.isList.push _⟩, fun i v s' Q' E' hP hQ => ?_, fun h' tk hk => ?_⟩
  · rw [item_bl (d := true) r' hP]
    exact wpAny_truthy_bool hQ
  · refine ⟨.bl (bs.all id), H, I.kept (t' := tk) fun b o e => hk b o (fun z => Nat.ne_of_lt (Heap.lt_size e) (List.mem_singleton.mp z)) (Heap.get?_push_of_some _ e), ?_, q⟩
    show Value.bool _ = Value.bool _
    rw [hlen, all_range]
theorem call_any (hc : X.calm = true) : CallR X (.builtin "any") (fun xs H Q => ∃ (p : Addr) (bs : List Bool), xs = [.ref p] ∧ SqL X.K H p (bs.map V.bl) ∧ Q (.bl (bs.any id)) H) := by
  intro pins s σ H xs us Q I r h
  obtain ⟨p, bs, rfl, hq, q⟩ := h
  obtain ⟨u, rfl, rx⟩ := vals1 r
  cases rx
  obtain ⟨its, r', pl, hz⟩ := I.list hq
  have hlt := list_lt pl.isList
  have hlen : its.toArray.size = bs.length := by rw [List.size_toArray, ← r'.length, List.length_map]
  refine call_any_walk (wpAny_pyIter_list pl.isList ?_)
  refine ⟨s.heap.objs.size, _, _, _, _, _, fun i => bs.getD i false, rfl, Walks.list (A := X.A.in1) (I.ok.hd hc) s.heap.objs.size p (Nat.ne_of_lt hlt) its.toArray, ⟨⟨_, Heap.get?_push_size _ rfl, rfl, rfl⟩, pl.isList.push _⟩, fun i v s' Q' E' hP hQ => ?_, fun h' tk hk => ?_⟩
  · rw [item_bl (d := false) r' hP]
    exact wpAny_truthy_bool hQ
  · refine ⟨.bl (bs.any id), H, I.kept (t' := tk) fun b o e => hk b o (fun z => Nat.ne_of_lt (Heap.lt_size e) (List.mem_singleton.mp z)) (Heap.get?_push_of_some _ e), ?_, q⟩
    show Value.bool _ = Value.bool _
    rw [hlen, any_range]
theorem call_sum (hc : X.calm = true) : CallR X (.builtin "sum") (fun xs H Q => ∃ (p : Addr) (ns : List Int), xs = [.ref p] ∧ SqL X.K H p (ns.map V.int) ∧ Q (.int ns.sum) H) := by
  intro pins s σ H xs us Q I r h
  obtain ⟨p, ns, rfl, hq, q⟩ := h
  obtain ⟨u, rfl, rx⟩ := vals1 r
  cases rx
  obtain ⟨its, r', pl, hz⟩ := I.list hq
  have hlt := list_lt pl.isList
  have hlen : its.toArray.size = ns.length := by rw [List.size_toArray, ← r'.length, List.length_map]
  refine call_sum_walkG (wpAny_pyIter_list pl.isList ?_)
  refine ⟨s.heap.objs.size, _, _, _, _, _, fun i => ns.getD i 0, rfl, Walks.list (A := X.A.in1) (I.ok.hd hc) s.heap.objs.size p (Nat.ne_of_lt hlt) its.toArray, ⟨⟨_, Heap.get?_push_size _ rfl, rfl, rfl⟩, pl.isList.push _⟩, fun b hb => ?_, fun i v hP => item_int r' hP, fun h' tk t' hk => ?_⟩
  · show b < (s.heap.push _).objs.size
    rw [Heap.size_push]
    rcases List.mem_cons.mp hb with rfl | hb
    · exact Nat.lt_succ_self _
    · rw [List.mem_singleton.mp hb]; exact Nat.lt_succ_of_lt hlt
  · refine ⟨.int ns.sum, H, I.kept (t' := tk) fun b o e => hk b o (fun z => Nat.ne_of_lt (Heap.lt_size e) (List.mem_singleton.mp z)) (Heap.get?_push_of_some _ e), ⟨t', ?_⟩, q⟩
    rw [hlen, preSum_take ns _ (Nat.le_refl _), List.take_length]
/-! ### over a text -/
/-- an iterator that keeps to itself -/
def Itv (n : Nat) (val : Nat → V) : It := ⟨fun i _ => i < n, fun i H x H' => H' = H ∧ x = val i, fun i _ => n ≤ i⟩
theorem turn_walk {P : Program} {w : World} {K : PySem.W.Frag} {tg : Expr} {it : Addr} {n : Nat} {Pv : Nat → Value → Prop} {St : Nat → Heap → Prop} {val : Nat → V} (W : ∀ A : Around, A.handled = none → Walks P w A it [it] [it] n Pv St)
    (hfr : ∀ i (h h' : Heap), St i h → (∀ o, h.get? it = some o → h'.get? it = some o) → St i h') (hobj : ∀ i h, St i h → ∃ o, h.get? it = some o ∧ ∀ v, o.data ≠ .cell v) (hP : ∀ i u, Pv i u → RelV (val i) u) (ht : ∀ v, letOwnedTupleGo tg (.ref it) v = pure ())
    (hself : ∀ (A : Around) (i : Nat) (s : Shared) (Q : Value → Shared → Prop) (E : Value → Shared → Prop), St i s.heap → Q (.ref it) s → wpAny (model P w) A (pyIter (.ref it)) Q E s) : Turn P w K tg (Itv n val) [it] it (fun i h => St i h ∧ i ≤ n) where
  mem := by simp
  obj := fun i h st b hb => by rw [List.mem_singleton.mp hb]; exact hobj i h st.1
  keep := fun i h h' st k => ⟨hfr i h h' st.1 fun o e => k it List.mem_cons_self o e, st.2⟩
  item := fun X e1 e2 e3 hc i pins s σ H E I hf st go => by
    subst e1 e2
    have go' : i < n := go
    refine (W X.A (I.ok.hd hc)).item i s _ _ go' st.1 fun v h' tk hv st' hk => ⟨v, rfl, ?_⟩
    rw [ht]
    obtain ⟨f0, f1, f2, f3, f4, f5⟩ := hf it List.mem_cons_self
    exact wpAny_pure ⟨val i, H, I.turned (t' := tk) (it := it) (fun b o hb e => hk b o (fun z => hb (List.mem_singleton.mp z)) e) f0 f1 f3 f4 f5, hP i v hv, ⟨rfl, rfl⟩, ⟨st', go'⟩, fun b hb => by rw [List.mem_singleton.mp hb]; exact f0⟩
  done := fun X e1 e2 e3 hc i pins s σ H E I hf st stop => by
    subst e1 e2
    obtain rfl : i = n := Nat.le_antisymm st.2 stop
    refine (W X.A (I.ok.hd hc)).done s _ _ st.1 fun h' tk hk => ⟨rfl, ?_⟩
    obtain ⟨f0, f1, f2, f3, f4, f5⟩ := hf it List.mem_cons_self
    exact I.turned (t' := tk) (it := it) (fun b o hb e => hk b o (fun z => hb (List.mem_singleton.mp z)) e) f0 f1 f3 f4 f5
  self := fun A i s Q E st h => hself A i s Q E st.1 h
/-- the i-th sign of a text, as a text -/
def sgn (z : Str) (i : Nat) : V := .str ⟨#[z.cps.getD i 0]⟩
def iStr (tl : TE) : TI := fun σ H R => tl σ H fun x H1 => ∃ z, x = .str z ∧ R (Itv z.cps.size (sgn z)) H1
theorem sgn_rel {z : Str} {i : Nat} {u : Value} (h : SignAt z i u) : RelV (sgn z i) u := by
  obtain ⟨c, t, e, rfl⟩ := h
  have e' : z.cps.getD i 0 = c := by
    rw [Array.getD_eq_getD_getElem?, e]; rfl
  exact ⟨t, by rw [e']⟩
theorem pi_str {tg l : Expr} {tl : TE} (hl : PE X l tl) (ht : ∀ it v, letOwnedTupleGo tg it v = pure () := by intro _ _; rfl) : PI X tg l (iStr tl) := by
  intro pins s σ H R I h
  refine thn (hl pins s σ H _ I h) fun v s1 ⟨x, H1, I1, r1, q1⟩ => ?_
  obtain ⟨z, rfl, q⟩ := q1
  obtain ⟨t, rfl⟩ := r1
  have fresh : ∀ o : Obj, ∀ b ∈ [s1.heap.objs.size], FpOk X pins H1 b := fun o b hb => by
    rw [List.mem_singleton.mp hb]
    exact I1.fpOk (Nat.le_refl _) (I1.hok.fresh (Nat.le_refl _))
  have kp : ∀ o : Obj, Inv X pins σ H1 { s1 with heap := s1.heap.push o } := fun o => I1.kept (t' := s1.toks) fun b u e => Heap.get?_push_of_some _ e
  have fr : ∀ (ty : String) (i : Nat) (h h' : Heap), h.IsStrIter s1.heap.objs.size ty z t i → (∀ o, h.get? s1.heap.objs.size = some o → h'.get? s1.heap.objs.size = some o) → h'.IsStrIter s1.heap.objs.size ty z t i := fun ty i h h' st k => by
    obtain ⟨o, ho, r⟩ := st
    exact ⟨o, k o ho, r⟩
  have ob : ∀ (ty : String) (i : Nat) (h : Heap), h.IsStrIter s1.heap.objs.size ty z t i → ∃ o, h.get? s1.heap.objs.size = some o ∧ ∀ v, o.data ≠ .cell v := fun ty i h st => by
    obtain ⟨o, ho, hc, hd⟩ := st
    exact ⟨o, ho, fun v e => by rw [hd] at e; cases e⟩
  cases ha : z.cps.all (· < 128)
  · refine wpAny_pyIter_wide ha ?_
    exact ⟨s1.heap.objs.size, [s1.heap.objs.size], _, _, H1, rfl, kp _, turn_walk (fun A' hA => Walks.strWide hA _ z t) (fr _) (ob _) (fun i u hu => sgn_rel hu) (ht _) (fun A i s' Q E st hq => wpAny_pyIter_striter_wide st hq), ⟨⟨_, Heap.get?_push_size _ rfl, rfl, rfl⟩, Nat.zero_le _⟩, fresh { cls := .none, data := .fields #[] }, q⟩
  · refine wpAny_pyIter_ascii ha ?_
    exact ⟨s1.heap.objs.size, [s1.heap.objs.size], _, _, H1, rfl, kp _, turn_walk (fun A' hA => Walks.strAscii hA _ z t) (fr _) (ob _) (fun i u hu => sgn_rel hu) (ht _) (fun A i s' Q E st hq => wpAny_pyIter_striter_ascii st hq), ⟨⟨_, Heap.get?_push_size _ rfl, rfl, rfl⟩, Nat.zero_le _⟩, fresh { cls := .none, data := .fields #[] }, q⟩
end
theorem for_val {n : Nat} {val : Nat → V} {g : TG} {tb : TS} {D : Ends} {σ : St} {H : Hp} (Pv : Nat → St → Hp → Prop) (h0 : Pv 0 σ H)
    (hs : ∀ i σ H, i < n → Pv i σ H → g (val i) σ H fun σ2 H2 => tb { D with nx := Pv (i + 1), ct := Pv (i + 1), bk := D.nx } σ2 H2) (hd : ∀ σ H, Pv n σ H → D.nx σ H) :
    ∃ W : Nat → Nat → St → Hp → Prop, (∃ m, W 0 m σ H) ∧ ∀ i m σ H, W i m σ H →
      ((Itv n val).stop i H ∧ D.nx σ H) ∨ ((Itv n val).go i H ∧ ∃ N : St → Hp → Prop, (∀ σ' H', N σ' H' → ∃ m', m' < m ∧ W (i + 1) m' σ' H') ∧ ∀ x H', (Itv n val).yld i H x H' → g x σ H' fun σ2 H2 => tb { D with nx := N, ct := N, bk := D.nx } σ2 H2) := by
  refine ⟨fun i m σ H => m = n - i ∧ i ≤ n ∧ Pv i σ H, ⟨n, by simp, Nat.zero_le _, h0⟩, ?_⟩
  rintro i m σ H ⟨rfl, hi, p⟩
  by_cases hlt : i < n
  · refine .inr ⟨hlt, Pv (i + 1), fun σ' H' p' => ⟨n - (i + 1), by omega, rfl, hlt, p'⟩, fun x H' y => ?_⟩
    obtain ⟨e, y⟩ := y
    subst e y
    exact hs i σ _ hlt p
  · have e : i = n := by omega
    subst e
    exact .inl ⟨Nat.le_refl _, hd σ H p⟩
/-- a comprehension over places 0 .. n - 1 of which nothing is made but values -/
theorem comp_val {n : Nat} {val : Nat → V} {k : Nat} {g : TG} {te : TE} {σ : St} {H : Hp} {Q : VK} (f : V → V) (hl : n ≤ sizeLine)
    (hs : ∀ i H', i < n → Same H H' → ∀ R : V → Hp → Prop, (∀ H2, Same H' H2 → R (f (val i)) H2) → g (val i) (List.replicate k none ++ σ) H' fun σ4 H4 => σ4.drop k = σ ∧ te σ4 H4 R)
    (hd : ∀ H', Same H H' → NewL Q ((List.range n).map fun i => f (val i)) H') :
    ∃ W : Nat → Nat → List V → Hp → Prop, (∃ m, W 0 m [] H) ∧ ∀ i m ys H2, W i m ys H2 →
      ((Itv n val).stop i H2 ∧ NewL Q ys H2) ∨
      ((Itv n val).go i H2 ∧ ys.length < sizeLine ∧ ∀ x H3, (Itv n val).yld i H2 x H3 → g x (List.replicate k none ++ σ) H3 fun σ4 H4 => σ4.drop k = σ ∧ tYes σ4 H4 fun b H5 =>
        if b = true then te σ4 H5 fun y H6 => ∃ m', m' < m ∧ W (i + 1) m' (ys ++ [y]) H6 else ∃ m', m' < m ∧ W (i + 1) m' ys H5) := by
  refine ⟨fun i m ys H2 => m = n - i ∧ i ≤ n ∧ ys = (List.range i).map (fun i => f (val i)) ∧ Same H H2, ⟨n, by simp, Nat.zero_le _, rfl, Same.refl H⟩, ?_⟩
  rintro i m ys H2 ⟨rfl, hi, rfl, sm⟩
  by_cases hlt : i < n
  · refine .inr ⟨hlt, ?_, fun x H3 y => ?_⟩
    · rw [List.length_map, List.length_range]; omega
    · obtain ⟨e, y⟩ := y
      subst e y
      refine hs i _ hlt sm _ fun H4 s4 => ?_
      refine ⟨n - (i + 1), by omega, rfl, hlt, ?_, sm.trans s4⟩
      rw [List.range_succ, List.map_append]
      rfl
  · have e : i = n := by omega
    subst e
    exact .inl ⟨Nat.le_refl _, hd H2 sm⟩
end L2

/-! ## min of a list with a default -/
namespace L2
open PySem PySem.Spec PyProof.Rows
theorem args_minD (a d : Value) : argsOk "min" ⟨[a], [(Str.ofString "default", d)]⟩ := by unfold argsOk; kernel_rfl
/-- the least of the first k + 1 ones -/
def leastTo (ns : List Int) : Nat → Int
  | 0 => ns.getD 0 0
  | k + 1 => if ns.getD (k + 1) 0 < leastTo ns k then ns.getD (k + 1) 0 else leastTo ns k
def leastOf (ns : List Int) (d : Int) : Int := match ns with
  | [] => d
  | _ => leastTo ns (ns.length - 1)
section
variable {prog : Program} {w : World} {A : Around} {R : Result → Shared → Prop} {I p : Addr} {its : List Value} {ns : List Int} {d : Value}
/-- where the loop over the list stands -/
abbrev WL (I p : Addr) (its : List Value) (i : Nat) (h : Heap) : Prop := h.IsListIter I p i ∧ h.IsList p its.toArray
theorem minD_loop (hh : A.handled = none) (hne : p ≠ I) (r : Vals (ns.map V.int) its) (S : Addr) (hSI : S ≠ I) (hSp : S ≠ p) :
    ∀ (k j : Nat) (s : Shared) (t : Tok) (c : Nat), its.length = j + 1 + k → WL I p its (j + 1) s.heap → s.heap.get? S = some { cls := .type "list", dict := none, data := .seq #[.int (leastTo ns j) t, .int (leastTo ns j) t] c, slots := #[] } →
    (∀ (h' : Heap) (tk : Nat) (t' : Tok), (∀ b o, b ≠ I → b ≠ S → s.heap.get? b = some o → h'.get? b = some o) → R (.ok (.ret (.int (leastTo ns (its.length - 1)) t'))) { s with heap := h', toks := tk }) →
    codeAny (model prog w) A (.builtin "min.loop" ⟨[.ref I, .none, .ref S], [(Str.ofString "default", d)]⟩) R s := by
  have W := Walks.list (prog := prog) (w := w) (A := A.in1) hh I p hne its.toArray
  have nm : (toString "min" ++ toString ".loop" : String) = "min.loop" := by decide
  intro k
  induction k with
  | zero =>
    intro j s t c hj st hS hR
    refine codeAny_builtin F.entry_min_loop ?_
    rw [Around.under_plainId F.plain_min_loop _]
    show wpAny _ A.in1 (seqItems? (.ref S) >>= _) _ _ s
    refine wpAny_bind (wpAny_seqItems hS rfl ?_)
    show wpAny _ A.in1 (tryCatch (pyNext (.ref I)) _ >>= _) _ _ s
    have e : its.toArray.size = j + 1 := by rw [List.size_toArray]; omega
    refine wpAny_bind (wpAny_tryCatch (W.done s _ _ (by rw [e]; exact st) fun h' tk hk => ?_))
    have hS' := hk S _ (by simpa using hSI) hS
    show wpAny _ A.in1 (updateSeq S (fun _ => #[]) >>= _) _ _ _
    refine wpAny_bind (wpAny_updateSeq hS' rfl (wpAny_bind (wpAny_letGo (wpAny_pure ?_))))
    have q := hR (h'.update S (Obj.mapSeq fun _ => #[])) tk t fun b o hbI hbS e => (Heap.get?_update_other _ _ (Ne.symm hbS)).trans (hk b o (by simpa using hbI) e)
    rwa [show its.length - 1 = j by omega] at q
  | succ k ih =>
    intro j s t c hj st hS hR
    refine codeAny_builtin F.entry_min_loop ?_
    rw [Around.under_plainId F.plain_min_loop _]
    show wpAny _ A.in1 (seqItems? (.ref S) >>= _) _ _ s
    refine wpAny_bind (wpAny_seqItems hS rfl ?_)
    show wpAny _ A.in1 (tryCatch (pyNext (.ref I)) _ >>= _) _ _ s
    refine wpAny_bind (wpAny_tryCatch (W.item (j + 1) s _ _ (by rw [List.size_toArray]; omega) st fun v h' tk hP st' hk => ?_))
    obtain ⟨tv, rfl⟩ := item_int r hP
    have hS' := hk S _ (by simpa using hSI) hS
    show wpAny _ A.in1 (tryCatch (holding _ (richCompare .Lt (.int (ns.getD (j + 1) 0) tv) (.int (leastTo ns j) t) >>= _)) _ >>= _) _ _ _
    refine wpAny_bind (wpAny_tryCatch (wpAny_holding (wpAny_bind (HT.rcLt_int _ _ _ _ _ _ _ _ _ _ ?_))))
    refine wpAny_bind (wpAny_holding (wpAny_truthy_bool ?_))
    refine wpAny_bind (wpAny_letGo (wpAny_pure ?_))
    have fr : ∀ (f : Obj → Obj), WL I p its (j + 1 + 1) (h'.update S f) := fun f => W.frame _ _ _ st' fun b hb o e => by
      refine (Heap.get?_update_other _ _ fun z : S = b => ?_).trans e
      rcases List.mem_cons.mp hb with q | q
      · exact hSI (z.trans q)
      · exact hSp (z.trans (List.mem_singleton.mp q))
    by_cases lt : ns.getD (j + 1) 0 < leastTo ns j
    · have e : leastTo ns (j + 1) = ns.getD (j + 1) 0 := if_pos lt
      rw [decide_eq_true lt, if_pos rfl]
      refine wpAny_bind (wpAny_updateSeq hS' rfl (wpAny_bind (wpAny_letGo ?_)))
      rw [nm]
      refine wpAny_pure ⟨plainId_quiet F.plain_min_loop _, ih (j + 1) _ tv _ (by omega) (fr _) (by rw [e]; exact Heap.get?_update_self _ hS' rfl) fun h'' tk'' t'' hk'' => ?_⟩
      exact hR h'' tk'' t'' fun b o hbI hbS z => hk'' b o hbI hbS ((Heap.get?_update_other _ _ (Ne.symm hbS)).trans (hk b o (by simpa using hbI) z))
    · have e : leastTo ns (j + 1) = leastTo ns j := if_neg lt
      rw [decide_eq_false lt, if_neg Bool.false_ne_true]
      refine wpAny_bind (wpAny_letGo ?_)
      rw [nm]
      refine wpAny_pure ⟨plainId_quiet F.plain_min_loop _, ih (j + 1) _ t c (by omega) st' (by rw [e]; exact hS') fun h'' tk'' t'' hk'' => ?_⟩
      exact hR h'' tk'' t'' fun b o hbI hbS z => hk'' b o hbI hbS (hk b o (by simpa using hbI) z)
end
end L2
namespace L2
open PySem PySem.Spec PyProof.Rows
section
variable {prog : Program} {w : World} {A : Around} {R : Result → Shared → Prop} {I p : Addr} {its : List Value} {ns : List Int} {d : Value}
theorem minD_first (hh : A.handled = none) (hne : p ≠ I) (r : Vals (ns.map V.int) its) (S : Addr) (hSI : S ≠ I) (hSp : S ≠ p) {s : Shared} {c : Nat} {dv : Int} {td : Tok} (hd : d = .int dv td) (st : WL I p its 0 s.heap)
    (hS : s.heap.get? S = some { cls := .type "list", dict := none, data := .seq #[] c, slots := #[] })
    (hR : ∀ (h' : Heap) (tk : Nat) (t' : Tok), (∀ b o, b ≠ I → b ≠ S → s.heap.get? b = some o → h'.get? b = some o) → R (.ok (.ret (.int (leastOf ns dv) t'))) { s with heap := h', toks := tk }) :
    codeAny (model prog w) A (.builtin "min.loop" ⟨[.ref I, .none, .ref S], [(Str.ofString "default", d)]⟩) R s := by
  have W := Walks.list (prog := prog) (w := w) (A := A.in1) hh I p hne its.toArray
  have nm : (toString "min" ++ toString ".loop" : String) = "min.loop" := by decide
  have hlen := r.length
  rw [List.length_map] at hlen
  refine codeAny_builtin F.entry_min_loop ?_
  rw [Around.under_plainId F.plain_min_loop _]
  show wpAny _ A.in1 (seqItems? (.ref S) >>= _) _ _ s
  refine wpAny_bind (wpAny_seqItems hS rfl ?_)
  show wpAny _ A.in1 (tryCatch (pyNext (.ref I)) _ >>= _) _ _ s
  cases ns with
  | nil =>
    have e : its.toArray.size = 0 := by rw [List.size_toArray, ← hlen]; rfl
    refine wpAny_bind (wpAny_tryCatch (W.done s _ _ (by rw [e]; exact st) fun h' tk hk => ?_))
    refine wpAny_bind (wpAny_rule (wpAny_pure ?_))
    subst hd
    exact hR h' tk td fun b o hbI _ z => hk b o (by simpa using hbI) z
  | cons n0 rest =>
    have hz : 0 < its.toArray.size := by rw [List.size_toArray, ← hlen]; exact Nat.succ_pos _
    refine wpAny_bind (wpAny_tryCatch (W.item 0 s _ _ hz st fun v h' tk hP st' hk => ?_))
    obtain ⟨tv, rfl⟩ := item_int r hP
    have hS' := hk S _ (by simpa using hSI) hS
    show wpAny _ A.in1 (updateSeq S (fun _ => #[.int ((n0 :: rest).getD 0 0) tv, .int ((n0 :: rest).getD 0 0) tv]) >>= _) _ _ _
    refine wpAny_bind (wpAny_updateSeq hS' rfl ?_)
    rw [nm]
    refine wpAny_pure ⟨plainId_quiet F.plain_min_loop _, minD_loop (ns := n0 :: rest) hh hne r S hSI hSp (its.length - 1) 0 _ tv _ (by rw [List.size_toArray] at hz; omega) (W.frame _ _ _ st' fun b hb o e => ?_) (Heap.get?_update_self _ hS' rfl) fun h'' tk'' t'' hk'' => ?_⟩
    · refine (Heap.get?_update_other _ _ fun z : S = b => ?_).trans e
      rcases List.mem_cons.mp hb with q | q
      · exact hSI (z.trans q)
      · exact hSp (z.trans (List.mem_singleton.mp q))
    · have q := hR h'' tk'' t'' fun b o hbI hbS z => hk'' b o hbI hbS ((Heap.get?_update_other _ _ (Ne.symm hbS)).trans (hk b o (by simpa using hbI) z))
      have e : leastOf (n0 :: rest) dv = leastTo (n0 :: rest) (its.length - 1) := by
        show leastTo (n0 :: rest) ((n0 :: rest).length - 1) = _
        rw [hlen]
      rwa [e] at q
/-- a built-in function's call with keywords, by its tree -/
theorem tree_kw {id : String} {b : Builtin} {args : List Value} {kw : List (Str × Value)} {E : Value → Shared → Prop} {s : Shared} {Q : Value → Shared → Prop} (hk : builtinKind id = none) (hp : plainId id = true) (hb : entryFor table id = some b) (ha : argsOk id ⟨args, kw⟩)
    (hc : wpAny (model prog w) A.in1 (b ⟨args, kw⟩) (fun fin s' => match fin with
      | .done f => (match (Except.ok f : Result) with | .ok (.ret v) => Q v s' | .ok _ => False | .error e => E e s')
      | .again c' => c'.quiet = true ∧ codeAny (model prog w) A c' (fun r s' => match r with | .ok (.ret v) => Q v s' | .ok _ => False | .error e => E e s') s') E s) : wpAny (model prog w) A (call (.builtin id) args kw) Q E s := by
  refine wpAny_call (codeAny_call_builtin hp hb ?_)
  simp only [checkBuiltinCall, hk]
  cases hsig : Manifest.signature? id with
  | none => exact wpAny_pure hc
  | some sig =>
    simp only [argsOk, hsig] at ha
    have h2 : Bind.checkArgs id sig ⟨args, kw⟩ = pure () := ha
    show wpAny _ A.in1 (Bind.checkArgs id sig ⟨args, kw⟩) _ _ s
    rw [h2]; exact wpAny_pure hc
end
/-- a call with keywords of a value that is known -/
def CallK (X : Cx) (f : Value) (ks : List Str) (r : List V → List V → Hp → VK → Prop) : Prop :=
  ∀ (pins : List (Addr × Obj)) (s : Shared) (σ : St) (H : Hp) (xs zs : List V) (us ws : List Value) (Q : VK), Inv X pins σ H s → Vals xs us → Vals zs ws → r xs zs H Q →
    wpAny (model X.prog X.w) X.A (call f us (ks.zip ws)) (EP X pins σ Q) X.xe s
section
variable {X : Cx} {x : Str} {p pos : Pos} {e : Expr} {es : List Expr} {t tk : TA} {id : String} {kws : List Keyword} {ks : List Str} {r : List V → List V → Hp → VK → Prop}
def tCBK (r : List V → List V → Hp → VK → Prop) (t tk : TA) : TE := fun σ H Q => t σ H fun vs H1 => tk σ H1 fun zs H2 => r vs zs H2 Q
theorem pe_callBK (hc : CallK X (.builtin id) ks r) (hg : Gl X x) (hm : X.mg x = none) (hv : bootBuiltins x = some (.builtin id)) (ha : PA X (e :: es) t) (hk : PK X kws tk) (hn : x ≠ "__name__" := by decide) (hdb : (x == ("__debug__" : Str)) = false := by decide)
    (he : backTo pos (starEach (e :: es) X.env) = (false, eval e X.env) :: backTo pos (starEach es X.env) := by rfl) (hpl : (backTo pos (starEach (e :: es) X.env)).any (·.1) = false := by rfl)
    (hall : (backToKw pos (keywordEach kws X.env)).all (·.1.isSome) = true := by rfl) (hkw : (backToKw pos (keywordEach kws X.env)).any (·.1.isNone) = false := by rfl) (hks : (backToKw pos (keywordEach kws X.env)).filterMap (·.1) = ks := by rfl) :
    PE X (.Call (.Name x p) (e :: es) kws pos) (tCBK r t tk) := by
  intro pins s σ H Q I h
  refine wpAny_Call_Name_kw (ld_blt I hg hm hv ?_ hn hdb)
  refine callWith_kw (thn (ha pos pins s σ H _ I h) fun us s1 ⟨vs, H1, I1, r1, q1⟩ => thn (hk pos pins s1 σ H1 _ I1 q1) fun ws s2 ⟨zs, H2, I2, r2, q2⟩ => ?_) he hpl hall hkw
  rw [hks]
  exact hc pins s2 σ H2 vs zs us ws Q I2 r1 r2 q2
theorem call_minD (hc : X.calm = true) : CallK X (.builtin "min") [Str.ofString "default"] (fun xs zs H Q => ∃ (p : Addr) (ns : List Int) (dv : Int), xs = [.ref p] ∧ zs = [.int dv] ∧ SqL X.K H p (ns.map V.int) ∧ Q (.int (leastOf ns dv)) H) := by
  intro pins s σ H xs zs us ws Q I rx rz h
  obtain ⟨p, ns, dv, rfl, rfl, hq, q⟩ := h
  obtain ⟨u, rfl, ru⟩ := vals1 rx
  obtain ⟨w', rfl, td, rfl⟩ := vals1 rz
  cases ru
  obtain ⟨its, r', pl, hz⟩ := I.list hq
  have hlt := list_lt pl.isList
  refine tree_kw F.kind_min F.plain_min F.entry_min (args_minD _ _) ?_
  show wpAny _ X.A.in1 (Builtin.Builtins.bindParams "min" ["key", "default"] 0 ⟨[], [(Str.ofString "default", .int dv td)]⟩ >>= _) _ _ s
  refine wpAny_bind (wpAny_of_eq (show Builtin.Builtins.bindParams "min" ["key", "default"] 0 ⟨[], [(Str.ofString "default", .int dv td)]⟩ = pure [none, some (.int dv td)] from rfl) ?_)
  refine wpAny_bind (wpAny_pure ?_)
  refine wpAny_bind (wpAny_pyIter_list pl.isList ?_)
  refine wpAny_bind (wpAny_newObj_type ?_)
  have nm : (toString "min" ++ toString ".loop" : String) = "min.loop" := by decide
  rw [nm]
  have e1 : (s.heap.push { cls := .type "list_iterator", data := .fields #[.ref p, .int 0 0] }).objs.size = s.heap.objs.size + 1 := Heap.size_push ..
  refine wpAny_pure ⟨plainId_quiet F.plain_min_loop _, minD_first (I := s.heap.objs.size) (p := p) (its := its) (ns := ns) (dv := dv) (td := td) (I.ok.hd hc) (Nat.ne_of_lt hlt) r' _ (by rw [e1]; exact Nat.ne_of_gt (Nat.lt_succ_self _)) (by rw [e1]; exact Nat.ne_of_gt (Nat.lt_succ_of_lt hlt)) rfl
    ⟨⟨_, Heap.get?_push_of_some _ (Heap.get?_push_size _ rfl), rfl, rfl⟩, (pl.isList.push _).push _⟩ (Heap.get?_push_size _ rfl) fun h' tk t' hk => ?_⟩
  refine ⟨.int (leastOf ns dv), H, I.kept (t' := tk) fun b o e => hk b o (Nat.ne_of_lt (Heap.lt_size e)) (by rw [e1]; exact Nat.ne_of_lt (Nat.lt_succ_of_lt (Heap.lt_size e))) (Heap.get?_push_of_some _ (Heap.get?_push_of_some _ e)), ⟨t', rfl⟩, q⟩
end
theorem leastTo_neg (ns : List Int) : ∀ k, (leastTo ns k < 0 ↔ ∃ i, i ≤ k ∧ ns.getD i 0 < 0)
  | 0 => ⟨fun h => ⟨0, Nat.le_refl _, h⟩, fun ⟨i, hi, h⟩ => by obtain rfl : i = 0 := (by omega); exact h⟩
  | k + 1 => by
    have ih := leastTo_neg ns k
    show (if ns.getD (k + 1) 0 < leastTo ns k then ns.getD (k + 1) 0 else leastTo ns k) < 0 ↔ _
    constructor
    · intro h
      split at h
      · exact ⟨k + 1, Nat.le_refl _, h⟩
      · obtain ⟨i, hi, hn⟩ := ih.mp h
        exact ⟨i, by omega, hn⟩
    · rintro ⟨i, hi, hn⟩
      by_cases e : i = k + 1
      · subst e
        split <;> omega
      · have := ih.mpr ⟨i, by omega, hn⟩
        split <;> omega
theorem leastOf_neg (ns : List Int) : leastOf ns 0 < 0 ↔ ∃ n ∈ ns, n < 0 := by
  cases ns with
  | nil => simp [leastOf]
  | cons a r =>
    show leastTo (a :: r) ((a :: r).length - 1) < 0 ↔ _
    rw [leastTo_neg]
    constructor
    · rintro ⟨i, hi, h⟩
      have hl : i < (a :: r).length := by simp only [List.length_cons] at hi ⊢; omega
      refine ⟨(a :: r)[i], List.getElem_mem hl, ?_⟩
      rw [List.getD_eq_getElem?_getD, List.getElem?_eq_getElem hl] at h
      exact h
    · rintro ⟨n, hn, h⟩
      obtain ⟨i, hl, rfl⟩ := List.mem_iff_getElem.mp hn
      refine ⟨i, by simp only [List.length_cons] at hl ⊢; omega, ?_⟩
      rw [List.getD_eq_getElem?_getD, List.getElem?_eq_getElem hl]
      exact h
end L2

/-! ## texts: slices, names -/
namespace L2
open PySem PySem.Spec PyProof.Rows
section
variable {X : Cx}
/-- z[lo:hi] of a text -/
theorem sl_str : SlR X (fun x lo hi H Q => ∃ z, x = .str z ∧ z.length ≤ sizeLine ∧ Q (.str (Txt.slice z lo hi)) H) := by
  intro pins s σ H x v vl vu lo hi sl Q I rx hs pl pu h
  obtain ⟨z, rfl, hz, q⟩ := h
  obtain ⟨t, rfl⟩ := rx
  refine ⟨"str", _, F.slot_str_getitem.lookup, typeIs_str _ _ _, ?_⟩
  have fin : ∀ (t' : Tok) (k : Nat), EP X pins σ Q (.str (Txt.slice z lo hi) t') { s with toks := k } := fun t' k => ⟨.str _, H, I.tok k, ⟨t', rfl⟩, q⟩
  obtain ⟨o, ho, hc, hd⟩ := hs
  cases pl with
  | none =>
    cases pu with
    | none => exact wpAny_getItem_str_slice (l := none) (u := none) (st := none) ⟨o, ho, hc, hd⟩ rfl (post_val_or_str ⟨Nat.le_trans (Txt.slice_le z _ _) hz, fin⟩)
    | int j uj => exact wpAny_getItem_str_slice (l := none) (u := some (j, uj)) (st := none) ⟨o, ho, hc, hd⟩ rfl (post_val_or_str ⟨Nat.le_trans (Txt.slice_le z _ _) hz, fin⟩)
  | int i ui =>
    cases pu with
    | none => exact wpAny_getItem_str_slice (l := some (i, ui)) (u := none) (st := none) ⟨o, ho, hc, hd⟩ rfl (post_val_or_str ⟨Nat.le_trans (Txt.slice_le z _ _) hz, fin⟩)
    | int j uj => exact wpAny_getItem_str_slice (l := some (i, ui)) (u := some (j, uj)) (st := none) ⟨o, ho, hc, hd⟩ rfl (post_val_or_str ⟨Nat.le_trans (Txt.slice_le z _ _) hz, fin⟩)
end
end L2
namespace L2
open PySem PySem.Spec PyProof.Rows
section
variable {X : Cx}
theorem strs_of : ∀ {ys : List Str} {its : List Value}, Vals (ys.map V.str) its → StrsAre its ys
  | [], _, .nil => .nil
  | y :: ys, _, .cons r t => by
    obtain ⟨tk, rfl⟩ := (show ∃ t, _ = Value.str y t from r)
    exact .cons y tk (strs_of t)
/-- sep.join(xs) -/
theorem mt_join : MtR X "str.join" (fun x xs H Q => ∃ (z : Str) (p : Addr) (ys : List Str), x = .str z ∧ xs = [.ref p] ∧ SqL X.K H p (ys.map V.str) ∧ (ys.map (·.length)).sum + ys.length * z.length ≤ 16777216 ∧ Q (.str (Txt.join z ys)) H) := by
  intro pins s σ H x xs v us Q I rx rs h
  obtain ⟨z, p, ys, rfl, rfl, hq, hz, q⟩ := h
  obtain ⟨t, rfl⟩ := rx
  obtain ⟨u, rfl, ru⟩ := vals1 rs
  cases ru
  obtain ⟨its, r', pl, _⟩ := I.list hq
  exact join_list pl.isList (by simpa using strs_of r') hz fun t' k => ⟨.str _, H, I.tok k, ⟨t', rfl⟩, q⟩
end
end L2

/-! ## a def with defaults -/
namespace L2
open PySem PySem.Spec PyProof.Rows
structure FunD (K : PySem.W.Frag) (x qual : Str) (st : Stmt) (dV : Value) (f : Addr) (fd : FuncData) : Prop where
  ex : ∃ (oc : Value) (od : Option Addr) (kV doc pm : Value) (an : Option Addr) (cdv ct : Value) (osl : Array (Option Value)),
    fd = PySem.W.fnOf x qual (defArgs st) (defBody st) (defScope st) dV kV doc pm an cdv ct ∧ K.lookup f = some ⟨oc, od, .func fd, osl⟩ ∧ PySem.W.codeIn K cdv qual = true
  kp : PySem.W.keepIn K (.ref f) = true
theorem FunD.okx {P : Program} {w : World} {K : PySem.W.Frag} {mg : Str → Option Value} {base : Heap} {x qual : Str} {st : Stmt} {dV : Value} {f : Addr} {fd : FuncData} {N ps : List Str} {k : Nat} {sp : Sp} (F : FunD K x qual st dV f fd) (S : FnScope N ps (defScope st))
    (len : ∀ vs H Q E, sp vs H Q E → vs.length = ps.length)
    (hbody : ∀ (cdv : Value) (A : Around) (outer : List Env) (s : Shared) (H : Hp) (vs : List V) (Q : VK) (E : XK), Room k (A.deeper (envOfC qual (defScope st) s.heap.objs.size f cdv)) → sp vs H Q E →
      ∃ t, PSs (cxOf (CXb P w) P w K mg base N qual (defScope st) f cdv A outer s H E) (defBody st) t ∧ t { nx := fun _ H' => Q .non H', rt := Q } (start N vs) H) : FnOk P w K mg base (CXb P w) (k + 1) f fd ps sp := by
  obtain ⟨oc, od, kV, doc, pm, an, cdv, ct, osl, rfl, lk, hcd⟩ := F.ex
  exact fn_of lk hcd S len fun A outer s H vs Q E hr hsp => hbody cdv A outer s H vs Q E hr hsp
theorem fun_mkD {K : PySem.W.Frag} {x qual : Str} {st : Stmt} {dV : Value} {f : Addr} {oc : Value} {od an : Option Addr} {osl : Array (Option Value)} {kV doc pm cdv ct : Value} (l : K.lookup f = some ⟨oc, od, .func (PySem.W.fnOf x qual (defArgs st) (defBody st) (defScope st) dV kV doc pm an cdv ct), osl⟩)
    (c : PySem.W.codeIn K cdv qual = true) (k : PySem.W.keepIn K (.ref f) = true) : FunD K x qual st dV f (PySem.W.fnOf x qual (defArgs st) (defBody st) (defScope st) dV kV doc pm an cdv ct) := ⟨⟨oc, od, kV, doc, pm, an, cdv, ct, osl, rfl, l, c⟩, k⟩
/-- .. in one hand -/
structure DvD (K : PySem.W.Frag) (mg : Str → Option Value) (x : Str) (st : Stmt) (ps : List Str) (dvs : List V) where
  f : Addr
  fd : FuncData
  dV : Value
  ds : List Value
  F : FunD K x x st dV f fd
  b : Binds K fd ps []
  bd : Binds K fd ps ds
  vd : Vals dvs ds
  m : mg x = some (.ref f)
end L2
namespace L2
open PySem PySem.Spec PyProof.Rows
/-! ### range(a, b, c), c written and positive -/
section
variable {X : Cx} {tg : Expr}
def iRng3 (ta : TA) : TI := fun σ H R => ta σ H fun vs H1 => ∃ i j c : Int, vs = [.int i, .int j, .int c] ∧ 0 < c ∧ c < 1073741824 ∧ Builtin.Range.small i j c = true ∧ R (Itv (Builtin.Range.rangeSize i j c).toNat fun k => .int (i + (k : Int) * c)) H1
theorem rangeSize_nn (i j c : Int) (hc : 0 < c) : 0 ≤ Builtin.Range.rangeSize i j c := by
  unfold Builtin.Range.rangeSize
  rw [if_pos hc]
  split
  · have := Int.ediv_nonneg (show 0 ≤ j - i - 1 by omega) (show 0 ≤ c by omega)
    omega
  · exact Int.le_refl 0
theorem pi_range3 {a b c : Expr} {ta : TA} {p pos : Pos} (hg : Gl X "range") (hm : X.mg "range" = none) (ha : PA X [a, b, c] ta) (hs : starEach [a, b, c] X.env = (false, eval a X.env) :: starEach [b, c] X.env := by rfl) (hpl : (backTo pos (starEach [b, c] X.env)).any (·.1) = false := by rfl)
    (ht : ∀ it v, letOwnedTupleGo tg it v = pure () := by intro _ _; rfl) : PI X tg (.Call (.Name "range" p) [a, b, c] [] pos) (iRng3 ta) := by
  intro pins s σ H R I h
  refine Call_ (ld_blt I hg hm boot_range (PyProof.Rows.callWith_type1 (thn (ha pos pins s σ H _ I h) fun us s1 ⟨vs, H1, I1, r1, q1⟩ => ?_) hs hpl))
  obtain ⟨i, j, k, e, q1, q2, q3, q⟩ := q1
  subst e
  cases r1 with
  | cons r rr =>
    cases rr with
    | cons r' rr =>
      cases rr with
      | cons r'' rr =>
        cases rr
        obtain ⟨t, rfl⟩ := r
        obtain ⟨t', rfl⟩ := r'
        obtain ⟨t'', rfl⟩ := r''
        refine call_range_3 (by omega) ?_ (.inl (PyProof.noPylong_small (by omega)))
        refine wpAny_pyIter_range (IsRange.new ..) q3 ?_
        have nn := rangeSize_nn i j k q1
        have I2 : Inv X pins σ H1 { s1 with heap := s1.heap.push { cls := .type "range", data := .fields #[.int i t, .int j t', .int k t''] }, toks := s1.toks } := I1.kept fun b o e => Heap.get?_push_of_some _ e
        refine ⟨(s1.heap.push { cls := .type "range", data := .fields #[.int i t, .int j t', .int k t''] }).objs.size, [(s1.heap.push { cls := .type "range", data := .fields #[.int i t, .int j t', .int k t''] }).objs.size], _, _, H1, rfl,
          I2.kept (t' := s1.toks) fun b o e => Heap.get?_push_of_some _ e, turn_walk (val := fun m => V.int (i + (m : Int) * k)) (fun A' hA => Walks.range hA _ i k (Builtin.Range.rangeSize i j k).toNat) (fun n h h' st kk => kk _ st) (fun n h st => ⟨_, st, fun v z => by cases z⟩) (fun n u hu => hu) (ht _) (fun A n s' Q E st hq => wpAny_pyIter_rangeiter st hq), ⟨?_, Nat.zero_le _⟩, fun b hb => ?_, q⟩
        · have e1 : i + ((0 : Nat) : Int) * k = i := by simp
          have e2 : (((Builtin.Range.rangeSize i j k).toNat : Nat) : Int) - ((0 : Nat) : Int) = Builtin.Range.rangeSize i j k := by omega
          show IsRangeIter _ _ (i + ((0 : Nat) : Int) * k) ((((Builtin.Range.rangeSize i j k).toNat : Nat) : Int) - ((0 : Nat) : Int)) k
          rw [e1, e2]
          exact Heap.get?_push_size _ rfl
        · rw [List.mem_singleton.mp hb]
          exact I2.fpOk (Nat.le_refl _) (I2.hok.fresh (Nat.le_refl _))
end
end L2
namespace L2
open PySem PySem.Spec PyProof.Rows
/-- a row of written texts -/
inductive StrEs : List Expr → List Str → Prop where
  | nil : StrEs [] []
  | cons {x : Str} {j : Nat} {pos : Pos} {es : List Expr} {xs : List Str} : StrEs es xs → StrEs (.Constant (.str x) j pos :: es) (x :: xs)
theorem StrEs.pa {X : Cx} {es : List Expr} {xs : List Str} (h : StrEs es xs) : PA X es (fun σ H Q => Q (xs.map V.str) H) := by
  induction h with
  | nil => exact pa_nil
  | cons h ih => exact pa_cons (t := fun _ H Q => Q (List.map V.str _) H) pe_str ih
end L2

/-! ## more rules: insert, a list taken apart, a comprehension with a test, == of lists of lists -/
namespace L2
open PySem PySem.Spec PyProof.Rows
section
variable {X : Cx}
def rInsert : V → List V → Hp → VK → Prop := fun x vs H Q => ∃ (l : Addr) (xs : List V) (i : Nat) (y : V), x = .ref l ∧ vs = [.int i, y] ∧ H l = some (.lst xs) ∧ i ≤ xs.length ∧ xs.length < sizeLine ∧ Q .non (upd H l (.lst (xs.take i ++ y :: xs.drop i)))
theorem insert_arr (its : List Value) (w : Value) {i : Nat} {x : Int} (hx : x = i) (hi2 : i ≤ its.length) : ((its.toArray.extract 0 (if x < 0 then (x + (its.toArray.size : Int)).toNat else min x.toNat its.toArray.size)).push w ++ its.toArray.extract (if x < 0 then (x + (its.toArray.size : Int)).toNat else min x.toNat its.toArray.size)) = (its.take i ++ w :: its.drop i).toArray := by
  subst hx
  rw [if_neg (by omega), Int.toNat_natCast, List.size_toArray, Nat.min_eq_left hi2]
  apply Array.toList_inj.mp
  simp
  exact List.take_of_length_le (by rw [List.length_drop]; exact Nat.le_refl _)
theorem call_insert {prog : Program} {w : World} {A : Around} {E : Value → Shared → Prop} {s : Shared} {l : Addr} {its : List Value} {n : Nat} {x : Int} {t : Tok} {y : Value} {Q : Value → Shared → Prop} (e : s.heap.get? l = some { cls := .type "list", data := .seq its.toArray n })
    (hf : Builtin.List.listFitsIndex x = true) (hz : its.length ≤ sizeLine)
    (h : Q .none { s with heap := s.heap.update l (Obj.mapSeq fun xs => have k := if x < 0 then (x + (xs.size : Int)).toNat else min x.toNat xs.size; (xs.extract 0 k).push y ++ xs.extract k), toks := s.toks }) :
    wpAny (model prog w) A (call (.builtin "list.insert") [.ref l, .int x t, y]) Q E s :=
  call_meets F.slot_list_insert ⟨_, e, rfl⟩ F.entry_list_insert (F.args_list_insert_3 _ _ _) (AutoSeq1.list_insert_list_int_val_1 l its.toArray n x t y (by simp [hf]) (by rw [List.size_toArray]; exact hz)) ⟨e, h⟩
theorem mt_insert : MtM X "list.insert" rInsert := by
  intro pins s σ H x vs v us Q I rx rv h
  obtain ⟨l, xs, i, y, rfl, rfl, hH, hi, hz, q⟩ := h
  cases rx
  obtain ⟨u, w, rfl, ru, rw'⟩ := rv.two
  obtain ⟨t, rfl⟩ := ru
  obtain ⟨z, its, n, r, hl, e⟩ := I.lstM hH
  have hi2 : i ≤ its.length := by omega
  have h2 : i < 16777216 := by rw [sizeLine_eq] at hz; omega
  have h3 : (i : Int) < 16777216 := by omega
  have h4 : (16777216 : Int) ≤ 2 ^ 63 := by decide
  have h5 : -(2 ^ 63) ≤ (0 : Int) := by decide
  have hf : Builtin.List.listFitsIndex (i : Int) = true := fitsIndex_both (Int.le_trans h5 (Int.natCast_nonneg i)) (Int.lt_of_lt_of_le h3 h4)
  refine call_insert e hf (by omega) ?_
  refine ⟨.non, _, I.lset (its' := its.take i ++ w :: its.drop i) hH e (insert_arr its w rfl hi2) ((r.take i).append (.cons rw' (r.drop i))) ?_, rfl, q⟩
  rw [List.length_append, List.length_cons, List.length_take, List.length_drop]
  omega
/-- (a, b, ..) = a list of that length -/
def gLst (K : PySem.W.Frag) (n : Nat) (t : TGs) : TG := fun v σ H Q => ∃ a xs, v = .ref a ∧ SqL K H a xs ∧ xs.length = n ∧ t xs σ H Q
theorem pg_lst {es : List Expr} {k : Nat} {t : TGs} {n : Nat} {pos : Pos} (hc : X.calm = true) (h : PGs X es t)
    (hn : (assignEach es X.env).length = n := by rfl) (hst : (assignEach es X.env).findIdx? (·.1) = none := by rfl) : PG X (.Tuple es k pos) (gLst X.K n t) := by
  intro pins s σ H v u Q I r hw
  obtain ⟨a, xs, e1, hq, hl, hw⟩ := hw
  subst e1
  cases r
  obtain ⟨its, rv, ht, hz⟩ := I.list hq
  have hsz : (assignEach es X.env).length = its.toArray.size := by rw [hn, ← hl, rv.length, List.size_toArray]
  rw [assign_Tuple]
  refine wpAny_bind (wpAny_standAt ?_)
  unfold unpack
  rw [hsz, hst]
  refine wpAny_bind (wpAny_holding (PySem.W.kun_itemsOf (I.ok.hd hc) ht.isList fun h' hx => ?_))
  have I1 : Inv X pins σ H { s with heap := h' } := I.kept (t' := s.toks) fun b o e => hx b o (Nat.ne_of_lt (Heap.lt_size e)) e
  exact h pins _ σ H xs _ Q I1 (by simpa using rv) hw
theorem ix_tupK {K : PySem.W.Frag} (h : X.K = K) : IxR X (rIxT K) := h ▸ ix_tup
theorem ix_listK {K : PySem.W.Frag} (h : X.K = K) : IxR X (rIxL K) := h ▸ ix_list
/-! ### == and != of what is made of lists, tuples and flat things, by levels -/
inductive EqH (K : PySem.W.Frag) (H : Hp) : Nat → V → V → Bool → Prop
  | flat {n x y} : flatV x = true → flatV y = true → EqH K H n x y (eqV x y)
  | same {n a} : EqH K H n (.ref a) (.ref a) true
  | lst {n a b xs ys} (e : Nat → Bool) : a ≠ b → SqL K H a xs → SqL K H b ys → xs.length = ys.length → (∀ j, j < xs.length → EqH K H n (xs.getD j .non) (ys.getD j .non) (e j)) → EqH K H (n + 1) (.ref a) (.ref b) ((List.range xs.length).all e)
  | lstN {n a b xs ys} : a ≠ b → SqL K H a xs → SqL K H b ys → xs.length ≠ ys.length → EqH K H (n + 1) (.ref a) (.ref b) false
  | tup {n a b xs ys} (e : Nat → Bool) : a ≠ b → SqT K H a xs → SqT K H b ys → xs.length = ys.length → (∀ j, j < xs.length → EqH K H n (xs.getD j .non) (ys.getD j .non) (e j)) → EqH K H (n + 1) (.ref a) (.ref b) ((List.range xs.length).all e)
theorem in1_units {A : Around} : A.in1.units = A.units + 1 := rfl
theorem vals_at {xs : List V} {us : List Value} (r : Vals xs us) {j : Nat} (h1 : j < us.toArray.size) : RelV (xs.getD j .non) us.toArray[j] := by
  have l1 : j < xs.length := by rw [r.length]; simpa using h1
  obtain ⟨u, e1, q1⟩ := r.get (i := j) (x := xs[j]) (List.getElem?_eq_getElem l1)
  have a1 : us.toArray[j] = u := by
    have := (List.getElem?_eq_some_iff.mp e1).2
    simpa using this
  have g1 : xs.getD j .non = xs[j] := by simp [List.getD_eq_getElem?_getD, l1]
  rw [a1, g1]
  exact q1
theorem eqH_at {pins : List (Addr × Obj)} {σ : St} {H : Hp} {s : Shared} (I : Inv X pins σ H s) {n : Nat} {x y : V} {b : Bool} (h : EqH X.K H n x y b) : ∀ {A : Around} {u v : Value}, RelV x u → RelV y v → A.units + n ≤ cLine → SeqAt.EqAt A s u v b := by
  induction h with
  | flat f g => intro A u v r r' _; exact eqAt_V r r' f g
  | same => intro A u v r r' _; cases r; cases r'; exact SeqAt.EqAt.same _
  | @lst n a b xs ys e hne ha hb hl _ ih =>
    intro A u v r r' hu
    cases r; cases r'
    obtain ⟨us, r, pl, _⟩ := I.list ha
    obtain ⟨ws, r', pl', _⟩ := I.list hb
    refine SeqAt.EqAt.of_refs hne ?_
    have hz : us.toArray.size = ws.toArray.size := by simp only [List.size_toArray]; rw [← r.length, ← r'.length, hl]
    have e1 : xs.length = us.toArray.size := by rw [List.size_toArray, ← r.length]
    rw [e1]
    refine SeqAt.RcAt.lists pl.isList pl'.isList hz (by omega) fun j h1 h2 => ?_
    exact ih j (by rw [e1]; exact h1) (vals_at r h1) (vals_at r' h2) (by rw [in1_units]; omega)
  | lstN hne ha hb hl =>
    intro A u v r r' hu
    cases r; cases r'
    obtain ⟨us, r, pl, _⟩ := I.list ha
    obtain ⟨ws, r', pl', _⟩ := I.list hb
    refine SeqAt.EqAt.of_refs hne (SeqAt.RcAt.lists_lengths pl.isList pl'.isList ?_ (by omega))
    simp only [List.size_toArray]; rw [← r.length, ← r'.length]; exact bne_iff_ne.mpr hl
  | @tup n a b xs ys e hne ha hb hl _ ih =>
    intro A u v r r' hu
    cases r; cases r'
    obtain ⟨us, r, pl, _⟩ := I.tuple ha
    obtain ⟨ws, r', pl', _⟩ := I.tuple hb
    refine SeqAt.EqAt.of_refs hne ?_
    have hz : us.toArray.size = ws.toArray.size := by simp only [List.size_toArray]; rw [← r.length, ← r'.length, hl]
    have e1 : xs.length = us.toArray.size := by rw [List.size_toArray, ← r.length]
    rw [e1, show (List.range us.toArray.size).all e = ((List.range (min us.toArray.size ws.toArray.size)).all e && us.toArray.size == ws.toArray.size) by rw [← hz, Nat.min_self, beq_self_eq_true, Bool.and_true]]
    refine SeqAt.RcAt.tuples pl pl' (by omega) fun j h1 h2 => ?_
    exact ih j (by rw [e1]; exact h1) (vals_at r h1) (vals_at r' h2) (by rw [in1_units]; omega)
/-- two lists, by their items -/
def rEqD (K : PySem.W.Frag) (neg : Bool) : R2 := fun x y H Q => ∃ a b xs ys, x = .ref a ∧ y = .ref b ∧ SqL K H a xs ∧ SqL K H b ys ∧
  ((xs.length ≠ ys.length ∧ Q (.bl neg) H) ∨ (xs.length = ys.length ∧ ∃ e : Nat → Bool, (∀ j, j < xs.length → EqH K H 60 (xs.getD j .non) (ys.getD j .non) (e j)) ∧ Q (.bl (if neg then !(List.range xs.length).all e else (List.range xs.length).all e)) H))
theorem op_eqD (hu : X.A.units + 64 < cLine) : OpR X (compareOp .Eq) (rEqD X.K false) := by
  intro pins s σ H x y v u Q I rx ry h
  obtain ⟨a, b, xs, ys, rfl, rfl, ha, hb, h⟩ := h
  cases rx
  cases ry
  obtain ⟨us, r, pl, _⟩ := I.list ha
  obtain ⟨ws, r', pl', _⟩ := I.list hb
  rcases h with ⟨hl, q⟩ | ⟨hl, e, he, q⟩
  · have hz : (us.toArray.size != ws.toArray.size) = true := by
      simp only [List.size_toArray]; rw [← r.length, ← r'.length]; exact bne_iff_ne.mpr hl
    exact SeqAt.eq_list_lengthsAt pl.isList pl'.isList hz (by omega) ⟨.bl false, H, I, rfl, q⟩
  · have hz : us.toArray.size = ws.toArray.size := by simp only [List.size_toArray]; rw [← r.length, ← r'.length, hl]
    have e1 : xs.length = us.toArray.size := by rw [List.size_toArray, ← r.length]
    refine SeqAt.eq_listAt (e := e) pl.isList pl'.isList hz (by omega) (fun j h1 h2 => eqH_at I (he j (by rw [e1]; exact h1)) (vals_at r h1) (vals_at r' h2) (by rw [in1_units]; omega)) ⟨.bl ((List.range xs.length).all e), H, I, ?_, q⟩
    show Value.bool _ = Value.bool _
    rw [e1]
theorem op_neD (hu : X.A.units + 64 < cLine) : OpR X (compareOp .NotEq) (rEqD X.K true) := by
  intro pins s σ H x y v u Q I rx ry h
  obtain ⟨a, b, xs, ys, rfl, rfl, ha, hb, h⟩ := h
  cases rx
  cases ry
  obtain ⟨us, r, pl, _⟩ := I.list ha
  obtain ⟨ws, r', pl', _⟩ := I.list hb
  rcases h with ⟨hl, q⟩ | ⟨hl, e, he, q⟩
  · have hz : (us.toArray.size != ws.toArray.size) = true := by
      simp only [List.size_toArray]; rw [← r.length, ← r'.length]; exact bne_iff_ne.mpr hl
    exact SeqAt.RcNeAt.lists_lengths pl.isList pl'.isList hz (by omega) _ _ _ _ ⟨.bl true, H, I, rfl, q⟩
  · have hz : us.toArray.size = ws.toArray.size := by simp only [List.size_toArray]; rw [← r.length, ← r'.length, hl]
    have e1 : xs.length = us.toArray.size := by rw [List.size_toArray, ← r.length]
    refine SeqAt.RcNeAt.lists (e := e) pl.isList pl'.isList hz (by omega) (fun j h1 h2 => eqH_at I (he j (by rw [e1]; exact h1)) (vals_at r h1) (vals_at r' h2) (by rw [in1_units]; omega)) _ _ _ _ ⟨.bl (!(List.range xs.length).all e), H, I, ?_, q⟩
    show Value.bool _ = Value.bool _
    rw [e1]
end
/-- a comprehension over a list of known things, with a test -/
theorem comp_map {K : PySem.W.Frag} {α : Type} {a : Addr} {ps : List α} {r : α → V} {k : Nat} {g : TG} {tf : TT} {te : TE} {σ : St} {H : Hp} {Q : VK} (p : α → Bool) (f : α → V) (hq : SqL K H a (ps.map r)) (hl : ps.length ≤ sizeLine)
    (hs : ∀ x H', x ∈ ps → Same H H' → ∀ (R : V → Hp → Prop) (R0 : Hp → Prop), (p x = true → ∀ H2, Same H' H2 → R (f x) H2) → (p x = false → ∀ H2, Same H' H2 → R0 H2) →
      g (r x) (List.replicate k none ++ σ) H' fun σ4 H4 => σ4.drop k = σ ∧ tf σ4 H4 fun b H5 => if b = true then te σ4 H5 R else R0 H5)
    (hd : ∀ H', Same H H' → NewL Q ((ps.filter p).map f) H') :
    ∃ W : Nat → Nat → List V → Hp → Prop, (∃ m, W 0 m [] H) ∧ ∀ i m ys H2, W i m ys H2 →
      ((Itl K a).stop i H2 ∧ NewL Q ys H2) ∨
      ((Itl K a).go i H2 ∧ ys.length < sizeLine ∧ ∀ x H3, (Itl K a).yld i H2 x H3 → g x (List.replicate k none ++ σ) H3 fun σ4 H4 => σ4.drop k = σ ∧ tf σ4 H4 fun b H5 =>
        if b = true then te σ4 H5 fun y H6 => ∃ m', m' < m ∧ W (i + 1) m' (ys ++ [y]) H6 else ∃ m', m' < m ∧ W (i + 1) m' ys H5) := by
  refine ⟨fun i m ys H2 => m = ps.length - i ∧ i ≤ ps.length ∧ ys = ((ps.take i).filter p).map f ∧ Same H H2, ⟨ps.length, by simp, Nat.zero_le _, rfl, Same.refl H⟩, ?_⟩
  rintro i m ys H2 ⟨rfl, hi, rfl, sm⟩
  have q2 : SqL K H2 a (ps.map r) := sm.seq hq
  by_cases hlt : i < ps.length
  · refine .inr ⟨⟨ps.map r, r ps[i], q2, by simp [hlt]⟩, ?_, fun x H3 y => ?_⟩
    · rw [List.length_map]
      have := List.length_filter_le p (ps.take i)
      rw [List.length_take] at this
      omega
    · obtain ⟨e, y⟩ := y
      subst e
      have ex : (ps.map r)[i]? = some x := y _ q2
      have ei : ps[i]? = some ps[i] := by simp [hlt]
      have exr : x = r ps[i] := by rw [List.getElem?_map, ei] at ex; exact (Option.some.inj ex).symm
      subst exr
      have tk : ps.take (i + 1) = ps.take i ++ [ps[i]] := by rw [List.take_add_one, ei]; rfl
      refine hs ps[i] _ (List.getElem_mem hlt) sm _ _ (fun hp H4 s4 => ?_) (fun hp H4 s4 => ?_)
      · refine ⟨ps.length - (i + 1), by omega, rfl, hlt, ?_, sm.trans s4⟩
        rw [tk, List.filter_append, List.map_append]
        simp [hp]
      · refine ⟨ps.length - (i + 1), by omega, rfl, hlt, ?_, sm.trans s4⟩
        rw [tk, List.filter_append, List.map_append]
        simp [hp]
  · have e : i = ps.length := by omega
    subst e
    refine .inl ⟨⟨ps.map r, q2, by simp⟩, ?_⟩
    rw [List.take_length]
    exact hd H2 sm
/-! ### the heap, where a list that is not yet of the start is written -/
theorem same_updN {H H1 : Hp} {p : Addr} {u : HO} (h : Same H H1) (hp : H p = none) : Same H (upd H1 p u) := fun b o e => by
  have hne : b ≠ p := fun z => by rw [z, hp] at e; cases e
  rw [upd_ne hne]
  exact h b o e
theorem upd_tup {H : Hp} {a p : Addr} {l : List V} {xs : List V} {u : HO} (h : H a = some (.tup l)) (hp : H p = some (.lst xs)) : upd H p u a = some (.tup l) := by
  have hne : a ≠ p := fun z => by rw [z, hp] at h; cases h
  rw [upd_ne hne]
  exact h
theorem upd_oth {H : Hp} {a p : Addr} {o u : HO} (h : H a = some o) (hne : a ≠ p) : upd H p u a = some o := by rw [upd_ne hne]; exact h
end L2

/-! ## comprehensions whose target is several names -/
namespace L2
open PySem PySem.Spec PyProof.Rows
/-- what the block of several names is asked, all of it read off the text -/
structure LcT (N M : List Str) (sc scope : Scope) (ts : List Str) : Prop where
  nd : (ts ++ M).Nodup
  kind : scope.kind = .function
  cell : (scope.names.all fun y => decide (y.2 ≠ .cell)) = true
  loc : (scope.names.all fun y => decide (y.2 = .local → scope.names.lookup y.1 = some .local)) = true
  free : (scope.names.all fun p => decide (p.2 = .free → sc.names.lookup p.1 = some .cell ∨ sc.names.lookup p.1 = some .free)) = true
  len : M.length = N.length
  apart : ((M.zip N).all fun y => decide (scope.names.lookup y.1 = none ∨ (y.2 = y.1 ∧ scope.names.lookup y.1 ≠ some .local))) = true
section
variable {X : Cx} {N M : List Str} {sc scope : Scope} {ts : List Str} {tg : Expr} {pos : Pos} {elt iter : Expr} {ifs : List Expr} {wi : TI} {g : TG} {tf : TT} {te : TE}
theorem LcT.ok (L : LcT N M sc scope ts) (eN : X.N = N) (es : X.env.scope = sc) : BlkOk X ts M scope := by
  subst eN es
  refine ⟨L.kind, fun y hy => of_decide_eq_true (List.all_eq_true.mp L.cell y hy), fun y hy => of_decide_eq_true (List.all_eq_true.mp L.loc y hy), fun y hy => of_decide_eq_true (List.all_eq_true.mp L.free y hy), L.len, fun i y hy => ?_⟩
  have hi : i < M.length := (List.getElem?_eq_some_iff.mp hy).1
  have hi2 : i < X.N.length := by rw [← L.len]; exact hi
  have hz : (M.zip X.N)[i]? = some (y, X.N[i]) := by rw [List.getElem?_zip_eq_some]; exact ⟨hy, List.getElem?_eq_getElem hi2⟩
  rcases of_decide_eq_true (List.all_eq_true.mp L.apart _ (List.mem_of_getElem? hz)) with z | ⟨z1, z2⟩
  · exact .inl z
  · exact .inr ⟨by rw [List.getElem?_eq_getElem hi2]; exact congrArg some z1, z2⟩
/-- one of the names, as a target in the block -/
theorem LcT.nm (L : LcT N M sc scope ts) (eN : X.N = N) (i : Nat) {x : Str} {px : Pos} (hx : ts[i]? = some x) (own : scope.names.lookup x = some .local) (cl : List (Str × Addr)) (C : Addr) (fp : List Addr) (s : Shared) (H : Hp) : PG (X.blk ts M scope cl C fp s H) (.Name x px) (gName i) :=
  pg_name (X := X.blk ts M scope cl C fp s H) (i := i) (by show (ts ++ M).Nodup; exact L.nd)
    (by show (ts ++ M)[i]? = some x
        have hi : i < ts.length := (List.getElem?_eq_some_iff.mp hx).1
        rw [List.getElem?_append_left hi]; exact hx) (.inl (lookup_relabel_local own)) (.inr (lookup_relabel_local own))
theorem pe_lcT (L : LcT N M sc scope ts) (eN : X.N = N) (es : X.env.scope = sc) (hc : X.calm = true) (hi : PI X tg iter wi) (hg : LcT N M sc scope ts → ∀ cl C fp s H, PG (X.blk ts M scope cl C fp s H) tg g) (hif : ∀ cl C fp s H, PIf (X.blk ts M scope cl C fp s H) ifs tf) (he : ∀ cl C fp s H, PE (X.blk ts M scope cl C fp s H) elt te)
    (hs : ∀ x, foldedSetIterable iter X.env x = pure x := by intro _; rfl) : PE X (.ListComp elt [⟨tg, iter, ifs, 0⟩] scope pos) (tComp ts.length wi g tf te) :=
  pe_lcG (ts := ts) (M := M) (L.ok eN es) hc hi (hg L) hif he hs
theorem ps_lcT {i : Nat} {y : Str} {py spos : Pos} (hN : X.N.Nodup) (hy : X.N[i]? = some y) (hk : X.env.kindOf y = some .local) (L : LcT N M sc scope ts) (eN : X.N = N) (es : X.env.scope = sc) (hc : X.calm = true) (hi : PI X tg iter wi)
    (hg : LcT N M sc scope ts → ∀ cl C fp s H, PG (X.blk ts M scope cl C fp s H) tg g) (hif : ∀ cl C fp s H, PIf (X.blk ts M scope cl C fp s H) ifs tf) (he : ∀ cl C fp s H, PE (X.blk ts M scope cl C fp s H) elt te)
    (hsw : swapsWith (.ListComp elt [⟨tg, iter, ifs, 0⟩] scope pos) (some (.Name y py)) spos.line X.env = pure true := by with_unfolding_all rfl) (hs : ∀ x, foldedSetIterable iter X.env x = pure x := by intro _; rfl) :
    PS X (.Assign [.Name y py] (.ListComp elt [⟨tg, iter, ifs, 0⟩] scope pos) spos) (tAsg (tComp ts.length wi g tf te) (gName i)) :=
  ps_lcG (ts := ts) (M := M) hN hy hk (L.ok eN es) hc hi (hg L) hif he hsw hs
end
/-- as pg_tup, with the fragment and the number named: so no name of the block gets into the reading -/
theorem pg_tupK {X : Cx} {pos : Pos} {es : List Expr} {k : Nat} {t : TGs} (K : PySem.W.Frag) (n : Nat) (hK : X.K = K) (hc : X.calm = true) (h : PGs X es t)
    (hn : (assignEach es X.env).length = n := by rfl) (hst : (assignEach es X.env).findIdx? (·.1) = none := by rfl) : PG X (.Tuple es k pos) (gTup K n t) := by
  subst hK
  exact pg_tup hc h hn hst
theorem hu1 {n : Nat} (h : n + 64 < cLine) : n + 1 < cLine := by omega
theorem call_list_ofK {X : Cx} {K : PySem.W.Frag} (hK : X.K = K) : CallR X (.type "list") (fun xs H Q => ∃ p ys, xs = [.ref p] ∧ (SqL K H p ys ∨ SqT K H p ys) ∧ ∀ l, H l = none → Q (.ref l) (upd H l (.lst ys))) := by
  subst hK
  exact call_list_of
/-- a comprehension over a list of known things, each turned into a value -/
theorem comp_all {K : PySem.W.Frag} {α : Type} {a : Addr} {ps : List α} {r : α → V} {k : Nat} {g : TG} {te : TE} {σ : St} {H : Hp} {Q : VK} (f : α → V) (hq : SqL K H a (ps.map r)) (hl : ps.length ≤ sizeLine)
    (hs : ∀ x H', x ∈ ps → Same H H' → ∀ (R : V → Hp → Prop), (∀ H2, Same H' H2 → R (f x) H2) → g (r x) (List.replicate k none ++ σ) H' fun σ4 H4 => σ4.drop k = σ ∧ te σ4 H4 R)
    (hd : ∀ H', Same H H' → NewL Q (ps.map f) H') :
    ∃ W : Nat → Nat → List V → Hp → Prop, (∃ m, W 0 m [] H) ∧ ∀ i m ys H2, W i m ys H2 →
      ((Itl K a).stop i H2 ∧ NewL Q ys H2) ∨
      ((Itl K a).go i H2 ∧ ys.length < sizeLine ∧ ∀ x H3, (Itl K a).yld i H2 x H3 → g x (List.replicate k none ++ σ) H3 fun σ4 H4 => σ4.drop k = σ ∧ tYes σ4 H4 fun b H5 =>
        if b = true then te σ4 H5 fun y H6 => ∃ m', m' < m ∧ W (i + 1) m' (ys ++ [y]) H6 else ∃ m', m' < m ∧ W (i + 1) m' ys H5) := by
  refine ⟨fun i m ys H2 => m = ps.length - i ∧ i ≤ ps.length ∧ ys = (ps.take i).map f ∧ Same H H2, ⟨ps.length, by simp, Nat.zero_le _, rfl, Same.refl H⟩, ?_⟩
  rintro i m ys H2 ⟨rfl, hi, rfl, sm⟩
  have q2 : SqL K H2 a (ps.map r) := sm.seq hq
  by_cases hlt : i < ps.length
  · refine .inr ⟨⟨ps.map r, r ps[i], q2, by simp [hlt]⟩, ?_, fun x H3 y => ?_⟩
    · rw [List.length_map, List.length_take]; omega
    · obtain ⟨e, y⟩ := y
      subst e
      have ex : (ps.map r)[i]? = some x := y _ q2
      have ei : ps[i]? = some ps[i] := by simp [hlt]
      have exr : x = r ps[i] := by rw [List.getElem?_map, ei] at ex; exact (Option.some.inj ex).symm
      subst exr
      refine hs ps[i] _ (List.getElem_mem hlt) sm _ fun H4 s4 => ?_
      refine ⟨ps.length - (i + 1), by omega, rfl, hlt, ?_, sm.trans s4⟩
      rw [List.take_add_one, ei, List.map_append]
      rfl
  · have e : i = ps.length := by omega
    subst e
    refine .inl ⟨⟨ps.map r, q2, by simp⟩, ?_⟩
    rw [List.take_length]
    exact hd H2 sm
/-- a comprehension over a list of known things, by an invariant of the list so far -/
theorem comp_inv {K : PySem.W.Frag} {α : Type} {a : Addr} {ps : List α} {r : α → V} {k : Nat} {g : TG} {te : TE} {σ : St} {H : Hp} {Q : VK} (J : Nat → List V → Hp → Prop) (j0 : J 0 [] H) (hq : ∀ i ys H', J i ys H' → SqL K H' a (ps.map r)) (hn : ∀ i ys H', J i ys H' → ys.length ≤ i) (hl : ps.length ≤ sizeLine)
    (hs : ∀ i x ys H', ps[i]? = some x → J i ys H' → g (r x) (List.replicate k none ++ σ) H' fun σ4 H4 => σ4.drop k = σ ∧ te σ4 H4 fun y H6 => J (i + 1) (ys ++ [y]) H6)
    (hd : ∀ ys H', J ps.length ys H' → NewL Q ys H') :
    ∃ W : Nat → Nat → List V → Hp → Prop, (∃ m, W 0 m [] H) ∧ ∀ i m ys H2, W i m ys H2 →
      ((Itl K a).stop i H2 ∧ NewL Q ys H2) ∨
      ((Itl K a).go i H2 ∧ ys.length < sizeLine ∧ ∀ x H3, (Itl K a).yld i H2 x H3 → g x (List.replicate k none ++ σ) H3 fun σ4 H4 => σ4.drop k = σ ∧ tYes σ4 H4 fun b H5 =>
        if b = true then te σ4 H5 fun y H6 => ∃ m', m' < m ∧ W (i + 1) m' (ys ++ [y]) H6 else ∃ m', m' < m ∧ W (i + 1) m' ys H5) := by
  refine ⟨fun i m ys H2 => m = ps.length - i ∧ i ≤ ps.length ∧ J i ys H2, ⟨ps.length, by simp, Nat.zero_le _, j0⟩, ?_⟩
  rintro i m ys H2 ⟨rfl, hi, jj⟩
  have q2 : SqL K H2 a (ps.map r) := hq i ys H2 jj
  by_cases hlt : i < ps.length
  · refine .inr ⟨⟨ps.map r, r ps[i], q2, by simp [hlt]⟩, ?_, fun x H3 y => ?_⟩
    · have := hn i ys H2 jj
      omega
    · obtain ⟨e, y⟩ := y
      subst e
      have ex : (ps.map r)[i]? = some x := y _ q2
      have ei : ps[i]? = some ps[i] := by simp [hlt]
      have exr : x = r ps[i] := by rw [List.getElem?_map, ei] at ex; exact (Option.some.inj ex).symm
      subst exr
      have h := hs i ps[i] ys _ ei jj
      have mono : ∀ y H6, J (i + 1) (ys ++ [y]) H6 → ∃ m', m' < ps.length - i ∧ m' = ps.length - (i + 1) ∧ i + 1 ≤ ps.length ∧ J (i + 1) (ys ++ [y]) H6 := fun y H6 z => ⟨ps.length - (i + 1), by omega, rfl, hlt, z⟩
      have fe : (fun (y : V) (H6 : Hp) => J (i + 1) (ys ++ [y]) H6) = fun y H6 => ∃ m', m' < ps.length - i ∧ m' = ps.length - (i + 1) ∧ i + 1 ≤ ps.length ∧ J (i + 1) (ys ++ [y]) H6 := by
        funext y H6
        exact propext ⟨mono y H6, fun ⟨_, _, _, _, z⟩ => z⟩
      rw [fe] at h
      exact h
  · have e : i = ps.length := by omega
    subst e
    exact .inl ⟨⟨ps.map r, q2, by simp⟩, hd ys H2 jj⟩
end L2


namespace L2
open PySem PySem.Spec PyProof.Rows

end L2

namespace L2
open PySem PySem.Spec PyProof.Rows

section
variable (P : Program) (w : World)
end

section
variable {P : Program} {w : World} {H H' : Hp} {h h' : Heap} {a : Addr} {o : HO}
end

section
variable {P : Program} {w : World} {H : Hp} {h h' : Heap} {x e : Addr} {o' : HO}
end


section
variable {fs fs' ex ex' : List Addr} {H H1 H2 : Hp} {h h1 h2 h' : Heap} {a x e : Addr} {o : HO}
end


end L2

namespace L2
open PySem PySem.Spec PyProof.Rows

section
variable {X : Cx} {pins : List (Addr × Obj)} {σ : List (Option V)} {H H' : Hp} {s : Shared} {h' : Heap}

end


end L2

namespace L2
open PySem PySem.Spec PyProof.Rows
section
variable {X : Cx}

variable {a b : Expr} {ta tb : TE} {pos : Pos}
variable {tA tB' : TT} {rest : List Expr}
end
end L2

namespace L2
open PySem PySem.Spec PyProof.Rows


section
variable {X : Cx} {pins : List (Addr × Obj)} {σ : St} {H : Hp} {s : Shared} {a : Addr} {xs ys : List V}
end


section
variable {X : Cx} {pins : List (Addr × Obj)} {σ : St} {H : Hp} {s : Shared} {E : Value → Shared → Prop}
end


section
variable {X : Cx} {st : Stmt} {rest : List Stmt} {t u : TS} {e : Expr} {te : TE} {pos : Pos}
end


section
variable {X : Cx} {pos : Pos}
end


section
variable {X : Cx} {pos : Pos}
end


end L2

namespace L2
open PySem PySem.Spec PyProof.Rows
section
variable {X : Cx} {tg : Expr}
end


end L2

namespace L2
open PySem PySem.Spec PyProof.Rows

section
variable {X : Cx} {a b c : Expr} {ta tb tc : TE} {pos : Pos}

end


section
variable {X : Cx} {a b c : Expr} {ta tb tc : TE} {pos : Pos}
end
end L2

namespace L2
open PySem PySem.Spec PyProof.Rows


section
variable {prog : Program} {w : World} {A : Around} {E : Value → Shared → Prop} {s : Shared} {K : PySem.W.Frag} {x dx C f : Addr} {mA : Str → Option Value} {name : Str} {v : Value}

end


section
variable {P : Program} {w : World} {H H' : Hp} {h h' : Heap} {a C dx : Addr} {fs fs' : List (Str × V)}
end


section
variable {X : Cx} {pins : List (Addr × Obj)} {σ : St} {H : Hp} {s : Shared} {a C dx : Addr} {fs : List (Str × V)} {f : Str} {v : V} {A : Around} {E : Value → Shared → Prop}

end


section
variable {X : Cx} {o e value : Expr} {f : Str} {pos pos' tpos : Pos} {ta tv : TE}
end


section
variable {X : Cx} {pins : List (Addr × Obj)} {σ : St} {H : Hp} {s : Shared} {A : Around} {E : Value → Shared → Prop} {Q : Value → Shared → Prop} {c : Value} {b : Bool}
end
end L2

namespace L2
open PySem PySem.Spec PyProof.Rows


section
variable {X : Cx} {e : Expr} {es : List Expr} {te : TE} {t : TA} {pos : Pos}
end


section
variable {X : Cx} {pins : List (Addr × Obj)} {σ : St} {H : Hp} {s s' : Shared}
end


section
variable {X : Cx} {CX : CXT} {k : Nat} {f C : Addr} {fd : FuncData} {ps : List Str} {sp : Sp} {dvs : List V} {ds : List Value} {E : XK} {x m : Str} {p pos apos : Pos} {e o : Expr} {es : List Expr} {ta : TE} {t : TA}

end


section
variable {X : Cx} {CX : CXT} {k : Nat} {f C : Addr} {fd : FuncData} {ps ks : List Str} {sp : Sp} {E : XK} {x m : Str} {p pos apos kpos : Pos} {e o : Expr} {es : List Expr} {kws : List Keyword} {te ta : TE} {t tk : TA} {nm : Option Str}
variable {g : List Value → List Value → List Value} {gV : List V → List V → List V}
end


end L2

namespace L2
open PySem PySem.Spec PyProof.Rows
section
variable {X : Cx} {x : Str} {p pos : Pos} {e : Expr} {es : List Expr} {t : TA} {id T : String} {r : List V → Hp → VK → Prop}

end
end L2

namespace L2
open PySem PySem.Spec PyProof.Rows


section
variable {κ : Type} [DecidableEq κ]
def valV (kvs : List (κ × V)) (k : κ) : Option V := (kvs.find? fun kv => decide (kv.1 = k)).map (·.2)
/-- in its place, or at the end -/
def putK (kvs : List (κ × V)) (k : κ) (v : V) : List (κ × V) :=
  if (kvs.any fun kv => decide (kv.1 = k)) = true then kvs.map (fun kv => if kv.1 = k then (kv.1, v) else kv) else kvs ++ [(k, v)]
def dropK (kvs : List (κ × V)) (k : κ) : List (κ × V) := kvs.filter fun kv => decide (kv.1 ≠ k)

theorem valV_nil {k : κ} : valV ([] : List (κ × V)) k = none := rfl
theorem valV_pos {p : κ × V} {r : List (κ × V)} {k : κ} (e : p.1 = k) : valV (p :: r) k = some p.2 := by simp [valV, List.find?_cons, e]
theorem valV_neg {p : κ × V} {r : List (κ × V)} {k : κ} (e : ¬ p.1 = k) : valV (p :: r) k = valV r k := by simp [valV, List.find?_cons, e]
theorem valV_any (k : κ) : ∀ kvs : List (κ × V), (kvs.any fun kv => decide (kv.1 = k)) = (valV kvs k).isSome
  | [] => rfl
  | p :: r => by
    rw [List.any_cons]
    by_cases e : p.1 = k
    · simp only [valV_pos e, decide_eq_true e, Bool.true_or, Option.isSome_some]
    · rw [valV_neg e, decide_eq_false e, Bool.false_or]; exact valV_any k r
theorem valV_map (k j : κ) (y : V) : ∀ kvs : List (κ × V), valV (kvs.map fun kv => if kv.1 = k then (kv.1, y) else kv) j = (valV kvs j).map fun x => if j = k then y else x
  | [] => rfl
  | p :: r => by
    have ih := valV_map k j y r
    rw [List.map_cons]
    by_cases h : p.1 = k
    · rw [if_pos h]
      by_cases e : p.1 = j
      · rw [valV_pos (p := (p.1, y)) e, valV_pos e, Option.map_some, if_pos (e.symm.trans h)]
      · rw [valV_neg (p := (p.1, y)) e, valV_neg e, ih]
    · rw [if_neg h]
      by_cases e : p.1 = j
      · rw [valV_pos (p := p) e, valV_pos e, Option.map_some, if_neg (fun z => h (e.trans z))]
      · rw [valV_neg (p := p) e, valV_neg e, ih]
theorem valV_snoc (k j : κ) (y : V) : ∀ kvs : List (κ × V), valV kvs k = none → valV (kvs ++ [(k, y)]) j = if j = k then some y else valV kvs j
  | [], _ => by
    by_cases e : k = j
    · rw [if_pos e.symm]; exact valV_pos (p := (k, y)) e
    · rw [if_neg (fun z => e z.symm)]; exact valV_neg (p := (k, y)) e
  | p :: r, hn => by
    rw [List.cons_append]
    have hk : ¬ p.1 = k := fun z => by rw [valV_pos z] at hn; cases hn
    rw [valV_neg hk] at hn
    have ih := valV_snoc k j y r hn
    by_cases e : p.1 = j
    · rw [valV_pos e, valV_pos e, if_neg (fun z => hk (e.trans z))]
    · rw [valV_neg e, valV_neg e, ih]
theorem valV_put (kvs : List (κ × V)) (k j : κ) (y : V) : valV (putK kvs k y) j = if j = k then some y else valV kvs j := by
  unfold putK
  by_cases a : (kvs.any fun kv => decide (kv.1 = k)) = true
  · rw [if_pos a, valV_map]
    rw [valV_any] at a
    by_cases e : j = k
    · obtain ⟨x, hx⟩ := Option.isSome_iff_exists.mp a
      rw [if_pos e, e, hx, Option.map_some, if_pos rfl]
    · rw [if_neg e]
      cases valV kvs j with
      | none => rfl
      | some x => rw [Option.map_some, if_neg e]
  · rw [if_neg a]
    refine valV_snoc k j y kvs ?_
    rw [valV_any] at a
    cases q : valV kvs k with
    | none => rfl
    | some x => rw [q] at a; exact (a rfl).elim
theorem length_putK (kvs : List (κ × V)) (k : κ) (v : V) : (putK kvs k v).length ≤ kvs.length + 1 := by
  unfold putK
  split
  · rw [List.length_map]; omega
  · rw [List.length_append, List.length_cons, List.length_nil]; omega
theorem putK_new {kvs : List (κ × V)} {k : κ} (v : V) (h : valV kvs k = none) : putK kvs k v = kvs ++ [(k, v)] := by
  unfold putK
  rw [valV_any, h]
  exact if_neg (by decide)

theorem RelO.isSome_eq {o : Option V} {u : Option Value} (r : RelO o u) : o.isSome = u.isSome := by
  cases o with
  | none => cases u with
    | none => rfl
    | some _ => exact (show False from r).elim
  | some _ => cases u with
    | none => exact (show False from r).elim
    | some _ => rfl
theorem RelO.getD {o : Option V} {u : Option Value} {d : V} {d' : Value} (r : RelO o u) (rd : RelV d d') : RelV (o.getD d) (u.getD d') := by
  cases o with
  | none => cases u with
    | none => exact rd
    | some _ => exact (show False from r).elim
  | some _ => cases u with
    | none => exact (show False from r).elim
    | some _ => exact r

/-- raw tables of the same keys -/
theorem KV.val {kvs : List (κ × V)} {vs : List (κ × Value)} (r : KV kvs vs) (k : κ) : RelO (valV kvs k) (valueAt vs k) := by
  unfold KV at r
  induction r with
  | nil => exact True.intro
  | @cons p q ps qs h t ih =>
    obtain ⟨h1, h2⟩ := h
    by_cases e : p.1 = k
    · have e' : q.1 = k := h1.symm.trans e
      have b : valueAt (q :: qs) k = some q.2 := by simp [valueAt, List.find?_cons, e']
      rw [valV_pos e, b]; exact h2
    · have e' : ¬ q.1 = k := fun z => e (h1.trans z)
      have b : valueAt (q :: qs) k = valueAt qs k := by simp [valueAt, List.find?_cons, e']
      rw [valV_neg e, b]; exact ih
theorem KV.any {kvs : List (κ × V)} {vs : List (κ × Value)} (r : KV kvs vs) (k : κ) : (kvs.any fun kv => decide (kv.1 = k)) = vs.any fun kv => decide (kv.1 = k) := by
  unfold KV at r
  induction r with
  | nil => rfl
  | cons h t ih => rw [List.any_cons, List.any_cons, ih, h.1]
theorem KV.repl {kvs : List (κ × V)} {vs : List (κ × Value)} (r : KV kvs vs) (k : κ) {y : V} {u : Value} (ry : RelV y u) :
    KV (kvs.map fun kv => if kv.1 = k then (kv.1, y) else kv) (vs.map fun kv => if kv.1 = k then (kv.1, u) else kv) := by
  unfold KV at r ⊢
  induction r with
  | nil => exact .nil
  | @cons p q ps qs h t ih =>
    rw [List.map_cons, List.map_cons]
    refine .cons ?_ ih
    obtain ⟨h1, h2⟩ := h
    by_cases e : p.1 = k
    · rw [if_pos e, if_pos (h1.symm.trans e)]; exact ⟨h1, ry⟩
    · rw [if_neg e, if_neg (fun z => e (h1.trans z))]; exact ⟨h1, h2⟩
theorem KV.put {kvs : List (κ × V)} {vs : List (κ × Value)} (r : KV kvs vs) (k : κ) {y : V} {u : Value} (ry : RelV y u) : KV (putK kvs k y) (stored vs k u) := by
  unfold putK stored
  rw [r.any k]
  by_cases e : (vs.any fun kv => decide (kv.1 = k)) = true
  · rw [if_pos e, if_pos e]; exact r.repl k ry
  · rw [if_neg e, if_neg e]; exact Paired.snoc r ⟨rfl, ry⟩
theorem KV.drop {kvs : List (κ × V)} {vs : List (κ × Value)} (r : KV kvs vs) (k : κ) : KV (dropK kvs k) (without vs k) := by
  unfold KV at r ⊢
  unfold dropK without
  induction r with
  | nil => exact .nil
  | @cons p q ps qs h t ih =>
    obtain ⟨h1, h2⟩ := h
    rw [List.filter_cons, List.filter_cons]
    by_cases e : p.1 = k
    · have a : ¬ decide (p.1 ≠ k) = true := by simp [e]
      have b : ¬ decide (q.1 ≠ k) = true := by simp [h1.symm.trans e]
      rw [if_neg a, if_neg b]; exact ih
    · have e' : ¬ q.1 = k := fun z => e (h1.trans z)
      have a : decide (p.1 ≠ k) = true := by simp [e]
      have b : decide (q.1 ≠ k) = true := by simp [e']
      rw [if_pos a, if_pos b]; exact .cons ⟨h1, h2⟩ ih
theorem KV.keys {kvs : List (κ × V)} {vs : List (κ × Value)} (r : KV kvs vs) : kvs.map (·.1) = vs.map (·.1) := by
  unfold KV at r
  induction r with
  | nil => rfl
  | cons h t ih => rw [List.map_cons, List.map_cons, ih, h.1]
theorem KV.length {kvs : List (κ × V)} {vs : List (κ × Value)} (r : KV kvs vs) : kvs.length = vs.length := Paired.length r
theorem dropK_le (kvs : List (κ × V)) (k : κ) : (dropK kvs k).length ≤ kvs.length := List.length_filter_le _ _
end



theorem kV_is {P : Program} {w : World} {k : Key} {u : Value} (r : RelV (kV k) u) : (mixKind P w).is k u = true := by
  cases k with
  | inl i => obtain ⟨t, e⟩ := (show ∃ t, u = Value.int i t from r); subst e; exact mixKind_int P w i t
  | inr x => obtain ⟨t, e⟩ := (show ∃ t, u = Value.str x t from r); subst e; exact mixKind_str P w x t
theorem kV_inj {a b : Key} (e : kV a = kV b) : a = b := by
  cases a with
  | inl i => cases b with
    | inl j => have e' : V.int i = V.int j := e; injection e' with e'; rw [e']
    | inr y => exact nomatch (show V.int i = V.str y from e)
  | inr x => cases b with
    | inl j => exact nomatch (show V.str x = V.int j from e)
    | inr y => have e' : V.str x = V.str y := e; injection e' with e'; rw [e']
theorem kVs_inj : ∀ {a b : List Key}, a.map kV = b.map kV → a = b
  | [], [], _ => rfl
  | [], _ :: _, e => by simp at e
  | _ :: _, [], e => by simp at e
  | x :: xs, y :: ys, e => by
    rw [List.map_cons, List.map_cons] at e
    injection e with e1 e2
    rw [kV_inj e1, kVs_inj e2]
theorem items_are {P : Program} {w : World} : ∀ {ks : List Key} {us : List Value}, Vals (ks.map kV) us → ItemsAre (mixKind P w) ks us
  | [], _, r => by rw [List.map_nil] at r; cases r; exact .nil
  | k :: ks, _, r => by
    rw [List.map_cons] at r
    cases r with
    | cons h t => exact .cons (kV_is h) (items_are t)

/-- raw entries of a dict with tuple keys -/
abbrev KT (H : Hp) : List (List Key × V) → List (List Key × Addr × Value) → Prop := Paired fun p q => p.1 = q.1 ∧ H q.2.1 = some (.tup (p.1.map kV)) ∧ RelV p.2 q.2.2
theorem KT.val {H : Hp} {kvs : List (List Key × V)} {xs : List (List Key × Addr × Value)} (r : KT H kvs xs) (k : List Key) : RelO (valV kvs k) ((atKey xs k).map (·.2)) := by
  induction r with
  | nil => exact True.intro
  | @cons p q ps qs h t ih =>
    obtain ⟨h1, _, h2⟩ := h
    by_cases e : p.1 = k
    · have e' : q.1 = k := h1.symm.trans e
      have b : atKey (q :: qs) k = some q.2 := by simp [atKey, List.find?_cons, e']
      rw [valV_pos e, b]; exact h2
    · have e' : ¬ q.1 = k := fun z => e (h1.trans z)
      have b : atKey (q :: qs) k = atKey qs k := by simp [atKey, List.find?_cons, e']
      rw [valV_neg e, b]; exact ih
theorem KT.repl {H : Hp} {kvs : List (List Key × V)} {xs : List (List Key × Addr × Value)} (r : KT H kvs xs) (k : List Key) {y : V} {u : Value} (ry : RelV y u) :
    KT H (kvs.map fun kv => if kv.1 = k then (kv.1, y) else kv) (xs.map (putAt k u)) := by
  induction r with
  | nil => exact .nil
  | @cons p q ps qs h t ih =>
    rw [List.map_cons, List.map_cons]
    refine .cons ?_ ih
    obtain ⟨h1, h2, h3⟩ := h
    unfold putAt
    by_cases e : p.1 = k
    · rw [if_pos e, if_pos (h1.symm.trans e)]; exact ⟨h1, h2, ry⟩
    · rw [if_neg e, if_neg (fun z => e (h1.trans z))]; exact ⟨h1, h2, h3⟩
theorem KT.put {H : Hp} {kvs : List (List Key × V)} {xs : List (List Key × Addr × Value)} (r : KT H kvs xs) (k : List Key) {b : Addr} {y : V} {u : Value} (hb : H b = some (.tup (k.map kV))) (ry : RelV y u) :
    KT H (putK kvs k y) (storedH xs k b u) := by
  have e : (kvs.any fun kv => decide (kv.1 = k)) = (atKey xs k).isSome := by
    rw [valV_any, (r.val k).isSome_eq, Option.isSome_map]
  unfold putK storedH
  rw [e]
  by_cases q : (atKey xs k).isSome = true
  · rw [if_pos q, if_pos q]; exact r.repl k ry
  · rw [if_neg q, if_neg q]; exact Paired.snoc r ⟨rfl, hb, ry⟩
theorem KT.keeps {H H' : Hp} {kvs : List (List Key × V)} {xs : List (List Key × Addr × Value)} (r : KT H kvs xs) (ht : ∀ b ys, H b = some (.tup ys) → H' b = some (.tup ys)) : KT H' kvs xs :=
  Paired.mapP r fun _ _ z => ⟨z.1, ht _ _ z.2.1, z.2.2⟩

section
variable {P : Program} {w : World} {H : Hp} {h : Heap} {a : Addr}
theorem rd_of {u : HO} (ok : HOk P w H h) (e : Rd H a u) : ObjOk P w H h a u := e.ok ok
theorem dk_rd {kvs : List (Key × V)} (ok : HOk P w H h) (e : Rd H a (.dK kvs)) : kvs.length ≤ sizeLine ∧ (a == sysModules) = false ∧ ∃ vs, KV kvs vs ∧ h.DictOf (mixKind P w) a vs :=
  show ObjOk P w H h a (.dK kvs) from rd_of ok e
theorem dk_of {kvs : List (Key × V)} (ok : HOk P w H h) (e : H a = some (.dK kvs)) : kvs.length ≤ sizeLine ∧ (a == sysModules) = false ∧ ∃ vs, KV kvs vs ∧ h.DictOf (mixKind P w) a vs := dk_rd ok (.inl e)
/-- a tracked tuple of ints and texts is a key -/
theorem key_of {ks : List Key} (ok : HOk P w H h) (e : H a = some (.tup (ks.map kV))) : (tupleKind (mixKind P w)).is h ks a := by
  obtain ⟨_, its, r, o, h1, h2, n, h3⟩ := (show ObjOk P w H h a (.tup (ks.map kV)) from ok a _ e)
  exact ⟨o, its.toArray, n, h1, h2, h3, by simpa using items_are r⟩
theorem dt_rd {kvs : List (List Key × V)} (ok : HOk P w H h) (e : Rd H a (.dT kvs)) : kvs.length ≤ sizeLine ∧ (a == sysModules) = false ∧
    ∃ xs, KT H kvs xs ∧ h.DictOfH (tupleKind (mixKind P w)) a xs := by
  obtain ⟨z, y, xs, r, o, es, ep, h1, h2, h3, h4, h5⟩ := (show ObjOk P w H h a (.dT kvs) from rd_of ok e)
  refine ⟨z, y, xs, r, o, es, ep, h1, h2, h3, h4, fun x hx => ?_, h5⟩
  have all : ∀ {l : List (List Key × V)} {m : List (List Key × Addr × Value)}, KT H l m → ∀ x ∈ m, (tupleKind (mixKind P w)).is h x.1 x.2.1 := by
    intro l m q
    induction q with
    | nil => intro x hx; exact nomatch hx
    | @cons p q ps qs hq t ih =>
      intro x hx
      rcases List.mem_cons.mp hx with e | hx
      · subst e
        exact key_of ok (by rw [← hq.1]; exact hq.2.1)
      · exact ih x hx
  exact all r x hx
theorem dt_of {kvs : List (List Key × V)} (ok : HOk P w H h) (e : H a = some (.dT kvs)) : kvs.length ≤ sizeLine ∧ (a == sysModules) = false ∧
    ∃ xs, KT H kvs xs ∧ h.DictOfH (tupleKind (mixKind P w)) a xs := dt_rd ok (.inl e)
end

/-- what the dict at a holds at the key y -/
def DGet (H : Hp) (a : Addr) (y : V) (r : Option V) : Prop :=
  (∃ kvs k, Rd H a (.dK kvs) ∧ y = kV k ∧ r = valV kvs k) ∨ ∃ kvs k b, Rd H a (.dT kvs) ∧ y = .ref b ∧ H b = some (.tup (k.map kV)) ∧ r = valV kvs k
/-- the heap behind a[y] = v -/
def DPut (H : Hp) (a : Addr) (y v : V) (H' : Hp) : Prop :=
  (∃ kvs k, H a = some (.dK kvs) ∧ y = kV k ∧ kvs.length < sizeLine ∧ H' = upd H a (.dK (putK kvs k v))) ∨
  ∃ kvs k b, H a = some (.dT kvs) ∧ y = .ref b ∧ H b = some (.tup (k.map kV)) ∧ kvs.length < sizeLine ∧ H' = upd H a (.dT (putK kvs k v))
theorem DGet.k {H : Hp} {a : Addr} {kvs : List (Key × V)} {k : Key} (e : H a = some (.dK kvs)) : DGet H a (kV k) (valV kvs k) := .inl ⟨kvs, k, .inl e, rfl, rfl⟩
theorem DGet.t {H : Hp} {a b : Addr} {kvs : List (List Key × V)} {k : List Key} (e : H a = some (.dT kvs)) (eb : H b = some (.tup (k.map kV))) : DGet H a (.ref b) (valV kvs k) := .inr ⟨kvs, k, b, .inl e, rfl, eb, rfl⟩
theorem DPut.k {H : Hp} {a : Addr} {kvs : List (Key × V)} {k : Key} {v : V} (e : H a = some (.dK kvs)) (hl : kvs.length < sizeLine) : DPut H a (kV k) v (upd H a (.dK (putK kvs k v))) := .inl ⟨kvs, k, e, rfl, hl, rfl⟩
theorem DPut.t {H : Hp} {a b : Addr} {kvs : List (List Key × V)} {k : List Key} {v : V} (e : H a = some (.dT kvs)) (eb : H b = some (.tup (k.map kV))) (hl : kvs.length < sizeLine) :
    DPut H a (.ref b) v (upd H a (.dT (putK kvs k v))) := .inr ⟨kvs, k, b, e, rfl, eb, hl, rfl⟩


section
variable {X : Cx} {pins : List (Addr × Obj)} {σ : St} {H : Hp} {s : Shared} {a : Addr} {y v : V} {u r : Value} {o : Option V} {A : Around} {E : Value → Shared → Prop}

theorem Inv.big (I : Inv X pins σ H s) : sysModules < s.heap.objs.size := by
  have h : mainGlobals < s.heap.objs.size := (I.mod.glob.keeps I.bk).lt
  exact Nat.lt_trans (by decide) h

/-- d[y], there -/
theorem d_getItem {Q : Value → Shared → Prop} (hu : A.units + 1 < cLine) (I : Inv X pins σ H s) (g : DGet H a y (some v)) (ry : RelV y u) (h : ∀ w' s', Inv X pins σ H s' → RelV v w' → Q w' s') :
    wpAny (model X.prog X.w) A (getItem (.ref a) u) Q E s := by
  rcases g with ⟨kvs, k, e, ey, l⟩ | ⟨kvs, k, b, e, ey, eb, l⟩
  · subst ey
    obtain ⟨z, hd, vs, rel, dd⟩ := dk_rd I.hok e
    obtain ⟨w', hw, rw'⟩ := RelO.some_of (v := v) (o := valueAt vs k) (by rw [l]; exact rel.val k)
    exact wpAny_getItem_of (kV_is ry) dd.mapOf hw (h w' _ (I.tok _) rw')
  · subst ey
    cases (show u = Value.ref b from ry)
    obtain ⟨z, hd, xs, rel, dd⟩ := dt_rd I.hok e
    obtain ⟨w', hw, rw'⟩ := RelO.some_of (v := v) (o := (atKey xs k).map (·.2)) (by rw [l]; exact rel.val k)
    obtain ⟨p, hp, hp2⟩ := Option.map_eq_some_iff.mp hw
    refine wpAny_getItem_heap (tupleKind_room_in1 hu) (key_of I.hok eb) dd hp ?_
    rw [hp2]
    exact h w' _ (I.tok _) rw'
/-- y in d -/
theorem d_in {Q : Value → Shared → Prop} (hu : A.units + 1 < cLine) (I : Inv X pins σ H s) (g : DGet H a y o) (ry : RelV y u) (h : ∀ s', Inv X pins σ H s' → Q (.bool o.isSome) s') :
    wpAny (model X.prog X.w) A (compareOp .In u (.ref a)) Q E s := by
  rcases g with ⟨kvs, k, e, ey, l⟩ | ⟨kvs, k, b, e, ey, eb, l⟩
  · subst ey
    obtain ⟨z, hd, vs, rel, dd⟩ := dk_rd I.hok e
    refine wpAny_in_of (kV_is ry) hd dd.mapOf ?_
    rw [← (rel.val k).isSome_eq, ← l]
    exact h _ (I.tok _)
  · subst ey
    cases (show u = Value.ref b from ry)
    obtain ⟨z, hd, xs, rel, dd⟩ := dt_rd I.hok e
    refine wpAny_in_heap (tupleKind_room_in1 hu) (key_of I.hok eb) hd dd ?_
    have q := (rel.val k).isSome_eq
    rw [Option.isSome_map] at q
    rw [← q, ← l]
    exact h _ (I.tok _)
theorem d_notIn {Q : Value → Shared → Prop} (hu : A.units + 1 < cLine) (I : Inv X pins σ H s) (g : DGet H a y o) (ry : RelV y u) (h : ∀ s', Inv X pins σ H s' → Q (.bool (!o.isSome)) s') :
    wpAny (model X.prog X.w) A (compareOp .NotIn u (.ref a)) Q E s := by
  rcases g with ⟨kvs, k, e, ey, l⟩ | ⟨kvs, k, b, e, ey, eb, l⟩
  · subst ey
    obtain ⟨z, hd, vs, rel, dd⟩ := dk_rd I.hok e
    refine wpAny_notIn_of (kV_is ry) hd dd.mapOf ?_
    rw [← (rel.val k).isSome_eq, ← l]
    exact h _ (I.tok _)
  · subst ey
    cases (show u = Value.ref b from ry)
    obtain ⟨z, hd, xs, rel, dd⟩ := dt_rd I.hok e
    refine wpAny_notIn_heap (tupleKind_room_in1 hu) (key_of I.hok eb) hd dd ?_
    have q := (rel.val k).isSome_eq
    rw [Option.isSome_map] at q
    rw [← q, ← l]
    exact h _ (I.tok _)
/-- a dict's object is replaced -/
theorem d_write {h' : Heap} {t' : Nat} {ob : HO} (I : Inv X pins σ H s) (mu : Mut (H a)) (hs : Heap.SameBut a s.heap h') (he : ∃ q, h'.get? a = some q) (new : ObjOk X.prog X.w (upd H a ob) h' a ob) :
    Inv X pins σ (upd H a ob) { s with heap := h', toks := t' } :=
  I.write (x := a) (e := a) mu (.inl rfl) (fun b q hb z => (hs.2 b hb).trans z) he new
theorem dk_new {P : Program} {w : World} {H' : Hp} {h' : Heap} {kvs : List (Key × V)} {vs : List (Key × Value)} (z : kvs.length ≤ sizeLine) (hd : (a == sysModules) = false) (rel : KV kvs vs) (dd : h'.DictOf (mixKind P w) a vs) :
    ObjOk P w H' h' a (.dK kvs) := ⟨z, hd, vs, rel, dd⟩
/-- d[y] = v -/
theorem d_setItem {H' : Hp} {Q : Unit → Shared → Prop} (hu : A.units + 1 < cLine) (I : Inv X pins σ H s) (g : DPut H a y v H') (ry : RelV y u) (rv : RelV v r) (h : ∀ s', Inv X pins σ H' s' → Q () s') :
    wpAny (model X.prog X.w) A (setItem (.ref a) u r) Q E s := by
  rcases g with ⟨kvs, k, e, ey, l, eH⟩ | ⟨kvs, k, b, e, ey, eb, l, eH⟩
  · subst ey eH
    obtain ⟨z, hd, vs, rel, dd⟩ := dk_of I.hok e
    have hz : vs.length ≤ sizeLine := by rw [← rel.length]; exact z
    have hl : (putK kvs k v).length ≤ sizeLine := by have := length_putK kvs k v; omega
    refine wpAny_setItem_pairs (hsz := hz) (kV_is ry) dd fun h' dd' hs => h _ ?_
    have he : ∃ q, h'.get? a = some q := let ⟨q, _, _, hq, _⟩ := dd'; ⟨q, hq⟩
    exact d_write I (by rw [e]; exact True.intro) hs he (dk_new hl hd (rel.put k rv) dd')
  · subst ey eH
    cases (show u = Value.ref b from ry)
    obtain ⟨z, hd, xs, rel, dd⟩ := dt_of I.hok e
    have hz : xs.length ≤ sizeLine := by rw [← Paired.length rel]; exact z
    have hl : (putK kvs k v).length ≤ sizeLine := by have := length_putK kvs k v; omega
    refine wpAny_setItem_heap (hsz := hz) (tupleKind_room_in1 hu) (key_of I.hok eb) dd fun h' dd' hs => h _ ?_
    obtain ⟨q, es, ep, hq, h2, h3, h4, _, h5⟩ := dd'
    refine d_write I (by rw [e]; exact True.intro) hs ⟨q, hq⟩ ⟨hl, hd, _, (rel.put k eb rv).keeps fun c ys ec => ?_, q, es, ep, hq, h2, h3, h4, h5⟩
    rw [upd_ne (ne_of ec e (fun z => nomatch z))]
    exact ec
end

section
variable {X : Cx} {pins : List (Addr × Obj)} {σ : St} {H : Hp} {s : Shared} {a : Addr} {kvs : List (Key × V)} {k : Key} {u : Value} {A : Around} {E : Value → Shared → Prop}
/-- del d[k] -/
theorem d_delItem {Q : Unit → Shared → Prop} (I : Inv X pins σ H s) (e : H a = some (.dK kvs)) (ry : RelV (kV k) u) (l : (valV kvs k).isSome = true) (h : ∀ s', Inv X pins σ (upd H a (.dK (dropK kvs k))) s' → Q () s') :
    wpAny (model X.prog X.w) A (delItem (.ref a) u) Q E s := by
  obtain ⟨z, hd, vs, rel, dd⟩ := dk_of I.hok e
  refine wpAny_delItem_slot dd.typeIs (by decide) PySem.F.slot_dict_delitem
    (call_meetsIn PySem.F.slot_dict_delitem dd.typeIs PySem.F.entry_dict_delitem (PySem.F.args_dict_delitem_2 _ _) (meets_dict_delitem_pairs (mixKind X.prog X.w) a (kV_is ry)) ⟨vs, dd, by rw [← rel.length]; exact z, by rw [← (rel.val k).isSome_eq]; exact l, fun h' dd' hs => h _ ?_⟩)
  have he : ∃ q, h'.get? a = some q := let ⟨q, _, _, hq, _⟩ := dd'; ⟨q, hq⟩
  exact d_write I (by rw [e]; exact True.intro) hs he (dk_new (Nat.le_trans (dropK_le kvs k) z) hd (rel.drop k) dd')
/-- d.pop(k[, x]), there -/
theorem d_pop {v : V} {more : List Value} {Q : Value → Shared → Prop} (I : Inv X pins σ H s) (e : H a = some (.dK kvs)) (ry : RelV (kV k) u) (l : valV kvs k = some v) (hm : more = [] ∨ ∃ x, more = [x])
    (h : ∀ w' s', Inv X pins σ (upd H a (.dK (dropK kvs k))) s' → RelV v w' → Q w' s') : wpAny (model X.prog X.w) A (call (.builtin "dict.pop") (.ref a :: u :: more)) Q E s := by
  obtain ⟨z, hd, vs, rel, dd⟩ := dk_of I.hok e
  obtain ⟨w', hw, rw'⟩ := RelO.some_of (v := v) (o := valueAt vs k) (by rw [← l]; exact rel.val k)
  have hp : (keyPart u).isSome = true := by
    cases k with
    | inl i => obtain ⟨t, q⟩ := (show ∃ t, u = Value.int i t from ry); subst q; rfl
    | inr x => obtain ⟨t, q⟩ := (show ∃ t, u = Value.str x t from ry); subst q; rfl
  have ha : argsOk "dict.pop" ⟨.ref a :: u :: more, []⟩ := by
    rcases hm with q | ⟨x, q⟩
    · subst q; exact PySem.F.args_dict_pop_2 _ _
    · subst q; exact PySem.F.args_dict_pop_3 _ _ _
  refine call_meetsIn PySem.F.slot_dict_pop dd.typeIs PySem.F.entry_dict_pop ha (meets_dict_pop_there (mixKind X.prog X.w) a (kV_is ry) more hm hp)
    ⟨vs, w', dd, by rw [← rel.length]; exact z, hw, fun h' dd' hs => h w' _ ?_ rw'⟩
  have he : ∃ q, h'.get? a = some q := let ⟨q, _, _, hq, _⟩ := dd'; ⟨q, hq⟩
  exact d_write I (by rw [e]; exact True.intro) hs he (dk_new (Nat.le_trans (dropK_le kvs k) z) hd (rel.drop k) dd')
/-- d.pop(k, x), not there -/
theorem d_popD {r : Value} {Q : Value → Shared → Prop} (I : Inv X pins σ H s) (e : H a = some (.dK kvs)) (ry : RelV (kV k) u) (l : valV kvs k = none) (h : ∀ s', Inv X pins σ H s' → Q r s') :
    wpAny (model X.prog X.w) A (call (.builtin "dict.pop") [.ref a, u, r]) Q E s := by
  obtain ⟨z, hd, vs, rel, dd⟩ := dk_of I.hok e
  have hn : valueAt vs k = none := RelO.none_of (by rw [← l]; exact rel.val k)
  have hp : (keyPart u).isSome = true := by
    cases k with
    | inl i => obtain ⟨t, q⟩ := (show ∃ t, u = Value.int i t from ry); subst q; rfl
    | inr x => obtain ⟨t, q⟩ := (show ∃ t, u = Value.str x t from ry); subst q; rfl
  exact call_meetsIn PySem.F.slot_dict_pop dd.typeIs PySem.F.entry_dict_pop (PySem.F.args_dict_pop_3 _ _ _) (meets_dict_pop_default (mixKind X.prog X.w) a (kV_is ry) hd hp r) ⟨vs, dd, hn, h _ (I.tok _)⟩
/-- d.clear() -/
theorem d_clear {Q : Value → Shared → Prop} (I : Inv X pins σ H s) (e : H a = some (.dK kvs)) (h : ∀ s', Inv X pins σ (upd H a (.dK [])) s' → Q .none s') : wpAny (model X.prog X.w) A (call (.builtin "dict.clear") [.ref a]) Q E s := by
  obtain ⟨z, hd, vs, rel, dd⟩ := dk_of I.hok e
  refine call_meetsIn PySem.F.slot_dict_clear dd.typeIs PySem.F.entry_dict_clear (PySem.F.args_dict_clear_1 _) (meets_dict_clear (mixKind X.prog X.w) a) ⟨vs, dd, by rw [← rel.length]; exact z, fun h' dd' hs => h _ ?_⟩
  have he : ∃ q, h'.get? a = some q := let ⟨q, _, _, hq, _⟩ := dd'; ⟨q, hq⟩
  exact d_write (t' := s.toks) I (by rw [e]; exact True.intro) hs he (dk_new (Nat.zero_le _) hd .nil dd')
/-- len(d) -/
theorem d_len {Q : Value → Shared → Prop} (I : Inv X pins σ H s) (e : Rd H a (.dK kvs)) (h : ∀ t s', Inv X pins σ H s' → Q (.int kvs.length t) s') : wpAny (model X.prog X.w) A (call (.builtin "len") [.ref a]) Q E s := by
  obtain ⟨z, hd, vs, rel, dd⟩ := dk_rd I.hok e
  refine call_len_dict hd dd (by rw [← rel.length]; rw [sizeLine_eq] at z; omega) ?_
  rw [← rel.length]
  exact h _ _ (I.tok _)
/-- if d -/
theorem d_truth {Q : Bool → Shared → Prop} (I : Inv X pins σ H s) (e : Rd H a (.dK kvs)) (h : ∀ s', Inv X pins σ H s' → Q (!kvs.isEmpty) s') : wpAny (model X.prog X.w) A (truthy (.ref a)) Q E s := by
  obtain ⟨z, hd, vs, rel, dd⟩ := dk_rd I.hok e
  refine wpAny_truthy_dict hd dd (by rw [← rel.length]; rw [sizeLine_eq] at z; omega) ?_
  have q : kvs.isEmpty = vs.isEmpty := by cases rel <;> rfl
  rw [← q]
  exact h _ (I.tok _)
end



/-- the element of a subscription, not a slice -/
def NoSl (i : Expr) : Prop := ∀ ov iv, subscripted i false ov iv = operate [ov, iv] (getItem ov iv)
theorem subD_of {prog : Program} {w : World} {A : Around} {E : Value → Shared → Prop} {s : Shared} {env : Env} {value slice : Expr} {pos : Pos} {T id : String} {Q : Value → Shared → Prop}
    (hl : typeLookup (.type T) "__getitem__" = pure (some (.builtin id))) (hs : NoSl slice)
    (h : wpAny (model prog w) A (eval value env) (fun o s₁ => wpAny (model prog w) A (eval slice env) (fun i s₂ => s₂.TypeIs o T ∧ wpAny (model prog w) A (getItem o i) Q E s₂) E s₁) E s) :
    wpAny (model prog w) A (eval (.Subscript value slice pos) env) Q E s := by
  refine Subscript_ (wpAny_mono h (fun o s₁ h₁ => wpAny_mono h₁ (fun i s₂ h₂ => ?_) fun _ _ x => x) fun _ _ x => x)
  obtain ⟨hT, h₂⟩ := h₂
  unfold subscriptTail
  refine wpAny_bind ?_
  rw [getitemInPython_of_ne hT.not_modules]
  refine wpAny_bind (wpAny_specialOf hT hl ?_)
  have fin : wpAny (model prog w) A (subscripted slice false o i) (fun r s₃ => wpAny (model prog w) A (letTemporaryGo value o r >>= fun _ => pure r) Q E s₃) E s₂ := by
    rw [hs o i]
    exact wpAny_operating (wpAny_mono h₂ (fun r s₃ h₃ => wpAny_bind (wpAny_letTemporaryGo (wpAny_pure h₃))) fun _ _ x => x)
  first
    | exact wpAny_pure (wpAny_bind fin)
    | exact wpAny_bind (wpAny_pure (wpAny_bind fin))
    | exact wpAny_bind fin

theorem dict_typeIs {X : Cx} {pins : List (Addr × Obj)} {σ : St} {H : Hp} {s : Shared} {a : Addr} {y : V} {o : Option V} (I : Inv X pins σ H s) (g : DGet H a y o) : s.TypeIs (.ref a) "dict" := by
  rcases g with ⟨kvs, k, e, _, _⟩ | ⟨kvs, k, b, e, _, _, _⟩
  · obtain ⟨_, _, vs, _, dd⟩ := dk_rd I.hok e
    exact dd.typeIs
  · obtain ⟨_, _, xs, _, dd⟩ := dt_rd I.hok e
    exact dd.typeIs
theorem dict_noDict {X : Cx} {pins : List (Addr × Obj)} {σ : St} {H : Hp} {s : Shared} {a : Addr} {y : V} {o : Option V} (I : Inv X pins σ H s) (g : DGet H a y o) :
    ∀ b, Value.ref a = .ref b → ∃ ob, s.heap.get? b = some ob ∧ ob.dict = none := fun b q => by
  cases q
  rcases g with ⟨kvs, k, e, _, _⟩ | ⟨kvs, k, b, e, _, _, _⟩
  · obtain ⟨_, _, vs, _, ob, _, _, h1, h2, _⟩ := dk_rd I.hok e
    exact ⟨ob, h1, h2.2.1⟩
  · obtain ⟨_, _, xs, _, ob, _, _, h1, h2, _⟩ := dt_rd I.hok e
    exact ⟨ob, h1, h2.2.1⟩

/-- d[y] -/
def tDGet (td ty : TE) : TE := fun σ H Q => td σ H fun x H1 => ty σ H1 fun y H2 => ∃ a v, x = .ref a ∧ DGet H2 a y (some v) ∧ Q v H2
/-- y in d, y not in d -/
def tDIn (ty td : TE) : TE := fun σ H Q => ty σ H fun y H1 => td σ H1 fun x H2 => ∃ a o, x = .ref a ∧ DGet H2 a y o ∧ Q (.bl o.isSome) H2
def tDNotIn (ty td : TE) : TE := fun σ H Q => ty σ H fun y H1 => td σ H1 fun x H2 => ∃ a o, x = .ref a ∧ DGet H2 a y o ∧ Q (.bl (!o.isSome)) H2
/-- d[y] = v -/
def sDPut (td ty tv : TE) : TS := fun D σ H => tv σ H fun v H1 => td σ H1 fun x H2 => ty σ H2 fun y H3 => ∃ a H4, x = .ref a ∧ DPut H3 a y v H4 ∧ D.nx σ H4
/-- d[y] op= v -/
def sDAug (td ty tv : TE) (rd : V → V → Hp → VK → Prop) : TS := fun D σ H => td σ H fun x H1 => ty σ H1 fun y H2 => ∃ a v, x = .ref a ∧ DGet H2 a y (some v) ∧
  tv σ H2 fun y2 H3 => rd v y2 H3 fun z H4 => ∃ H5, DPut H4 a y z H5 ∧ D.nx σ H5
/-- del d[y] -/
def sDDel (td ty : TE) : TS := fun D σ H => td σ H fun x H1 => ty σ H1 fun y H2 => ∃ a kvs k, x = .ref a ∧ H2 a = some (.dK kvs) ∧ y = kV k ∧ (valV kvs k).isSome = true ∧ D.nx σ (upd H2 a (.dK (dropK kvs k)))

section
variable {X : Cx} {o i e value : Expr} {pos pos' tpos : Pos} {td ty tv : TE}
theorem pe_dget (hu : X.A.units + 1 < cLine) (ho : PE X o td) (hi : PE X i ty) (hs : NoSl i) : PE X (.Subscript o i pos) (tDGet td ty) := by
  intro pins s σ H Q I h
  refine subD_of PySem.F.slot_dict_getitem.lookup hs (thn (ho pins s σ H _ I h) fun u s1 ⟨x, H1, I1, rx, q1⟩ => thn (hi pins s1 σ H1 _ I1 q1) fun iv s2 ⟨y, H2, I2, ry, a, v, ex, g, q2⟩ => ?_)
  subst ex
  obtain rfl : u = Value.ref a := rx
  exact ⟨dict_typeIs I2 g, d_getItem hu I2 g ry fun w' s3 I3 rw' => ⟨v, H2, I3, rw', q2⟩⟩
theorem pc_din (hu : X.A.units + 1 < cLine) (hi : PE X i ty) (ho : PE X o td) : PC X .In i o (tDIn ty td) := by
  intro pins s σ H Q I h
  refine thn (hi pins s σ H _ I h) fun iv s1 ⟨y, H1, I1, ry, q1⟩ => thn (ho pins s1 σ H1 _ I1 q1) fun u s2 ⟨x, H2, I2, rx, a, ov, ex, g, q2⟩ => ?_
  subst ex
  obtain rfl : u = Value.ref a := rx
  exact d_in hu I2 g ry fun s3 I3 => ⟨.bl ov.isSome, H2, I3, rfl, q2⟩
theorem pc_dnotin (hu : X.A.units + 1 < cLine) (hi : PE X i ty) (ho : PE X o td) : PC X .NotIn i o (tDNotIn ty td) := by
  intro pins s σ H Q I h
  refine thn (hi pins s σ H _ I h) fun iv s1 ⟨y, H1, I1, ry, q1⟩ => thn (ho pins s1 σ H1 _ I1 q1) fun u s2 ⟨x, H2, I2, rx, a, ov, ex, g, q2⟩ => ?_
  subst ex
  obtain rfl : u = Value.ref a := rx
  exact d_notIn hu I2 g ry fun s3 I3 => ⟨.bl (!ov.isSome), H2, I3, rfl, q2⟩
theorem ps_dput (hu : X.A.units + 1 < cLine) (ho : PE X o td) (hi : PE X i ty) (hv : PE X value tv) (hs : swapsWith value (some (.Subscript o i pos')) pos.line X.env = pure false) :
    PS X (.Assign [.Subscript o i pos'] value pos) (sDPut td ty tv) := by
  intro pins s σ H D I h
  refine wpAny_Assign_Subscript (thn (hv pins s σ H _ I h) fun r s1 ⟨v, H1, I1, rv, q1⟩ => thn (ho pins s1 σ H1 _ I1 q1) fun u s2 ⟨x, H2, I2, rx, q2⟩ => thn (hi pins s2 σ H2 _ I2 q2) fun iv s3 ⟨y, H3, I3, ry, a, H4, ex, g, q3⟩ => ?_) hs
  subst ex
  obtain rfl : u = Value.ref a := rx
  exact d_setItem hu I3 g ry rv fun s4 I4 => ⟨σ, H4, I4, q3⟩
theorem ps_daug {op : Operator} {rd : V → V → Hp → VK → Prop} (hu : X.A.units + 1 < cLine) (ho : PE X o td) (hi : PE X i ty) (hv : PE X value tv) (hop : InOp X op rd)
    (ha : ∀ ov iv new, augStore i ov iv new = (do holding [new, ov, iv] (setItem ov iv new); release [new, ov, iv] []; pure .next)) : PS X (.AugAssign (.Subscript o i tpos) op value pos) (sDAug td ty tv rd) := by
  intro pins s σ H D I h
  refine wpAny_AugAssign_SubscriptAny (thn (ho pins s σ H _ I h) fun u s1 ⟨x, H1, I1, rx, q1⟩ => thn (hi pins s1 σ H1 _ I1 q1) fun iv s2 ⟨y, H2, I2, ry, a, v, ex, g, q2⟩ => ?_) ha
  subst ex
  obtain rfl : u = Value.ref a := rx
  refine d_getItem hu I2 g ry fun w' s3 I3 rw' => thn (hv pins s3 σ H2 _ I3 q2) fun w2 s4 ⟨y2, H3, I4, ry2, q3⟩ => thn (hop pins s4 σ H3 v y2 w' w2 _ I4 rw' ry2 q3) fun w3 s5 ⟨z, H4, I5, rz, H5, g5, q4⟩ => ?_
  exact d_setItem hu I5 g5 ry rz fun s6 I6 => ⟨σ, H5, I6, q4⟩
theorem ps_ddel (ho : PE X o td) (hi : PE X i ty) : PS X (.Delete [.Subscript o i tpos] pos) (sDDel td ty) := by
  intro pins s σ H D I h
  refine wpAny_Delete (wpAny_deleteEach_cons (wpAny_delete_Subscript (thn (ho pins s σ H _ I h) fun u s1 ⟨x, H1, I1, rx, q1⟩ => thn (hi pins s1 σ H1 _ I1 q1) fun iv s2 ⟨y, H2, I2, ry, a, kvs, k, ex, e, ey, l, q2⟩ => ?_)))
  subst ex ey
  obtain rfl : u = Value.ref a := rx
  exact d_delItem I2 e ry l fun s3 I3 => wpAny_deleteEach_nil ⟨σ, _, I3, q2⟩
end



theorem dk_empty {P : Program} {w : World} {H : Hp} (h : Heap) (hb : sysModules < h.objs.size) : ObjOk P w H (h.push { cls := .type "dict", data := .dict #[] }) h.objs.size (.dK []) :=
  ⟨Nat.zero_le _, beq_eq_false_iff_ne.mpr (Ne.symm (Nat.ne_of_lt hb)), [], .nil, Heap.DictOf.new h⟩
theorem dt_empty {P : Program} {w : World} {H : Hp} (h : Heap) (hb : sysModules < h.objs.size) : ObjOk P w H (h.push { cls := .type "dict", data := .dict #[] }) h.objs.size (.dT []) :=
  ⟨Nat.zero_le _, beq_eq_false_iff_ne.mpr (Ne.symm (Nat.ne_of_lt hb)), [], .nil, _, #[], 0, Heap.get?_push_size _ rfl, ⟨rfl, rfl, rfl⟩, rfl, rfl, List.nodup_nil⟩
/-- {}, to be a dict of the kind that is wanted -/
def tDNewK : TE := fun _ H Q => ∀ p, H p = none → Q (.ref p) (upd H p (.dK []))
def tDNewT : TE := fun _ H Q => ∀ p, H p = none → Q (.ref p) (upd H p (.dT []))
section
variable {X : Cx} {pos : Pos}
theorem pe_dnewK : PE X (.Dict [] [] pos) tDNewK := fun pins s σ H Q I h =>
  wpAny_Dict_empty ⟨.ref s.heap.objs.size, _, I.laid (a := s.heap.objs.size) (o := .dK []) (t' := s.toks) (fun _ _ q => Heap.get?_push_of_some _ q) (Nat.le_refl _) (dk_empty s.heap I.big), rfl, h _ (I.hok.fresh (Nat.le_refl _))⟩
theorem pe_dnewT : PE X (.Dict [] [] pos) tDNewT := fun pins s σ H Q I h =>
  wpAny_Dict_empty ⟨.ref s.heap.objs.size, _, I.laid (a := s.heap.objs.size) (o := .dT []) (t' := s.toks) (fun _ _ q => Heap.get?_push_of_some _ q) (Nat.le_refl _) (dt_empty s.heap I.big), rfl, h _ (I.hok.fresh (Nat.le_refl _))⟩
end

/-- the pairs of a display, from the left -/
def tPairs : List (TE × TE) → St → Hp → (List (V × V) → Hp → Prop) → Prop
  | [], _, H, Q => Q [] H
  | (tk, tv) :: r, σ, H, Q => tk σ H fun x H1 => tv σ H1 fun y H2 => tPairs r σ H2 fun ps H3 => Q ((x, y) :: ps) H3
abbrev VV : List (V × V) → List (Value × Value) → Prop := Paired fun p q => RelV p.1 q.1 ∧ RelV p.2 q.2
def PPs (X : Cx) (pos : Pos) (keys : List (Option Expr)) (values : List Expr) (trs : List (TE × TE)) : Prop :=
  ∀ (pins : List (Addr × Obj)) (s : Shared) (σ : St) (H : Hp) (Q : List (V × V) → Hp → Prop), Inv X pins σ H s → tPairs trs σ H Q →
    wpAny (model X.prog X.w) X.A (evalPairs (pairTrees keys values X.env pos)) (fun vs s' => ∃ ps H', Inv X pins σ H' s' ∧ VV ps vs ∧ Q ps H') X.xe s
theorem pps_nil {X : Cx} {pos : Pos} : PPs X pos [] [] [] := fun pins s σ H Q I h => pairTrees_nil_walk ⟨[], H, I, .nil, h⟩
theorem pps_cons {X : Cx} {pos : Pos} {k v : Expr} {ks : List (Option Expr)} {vs : List Expr} {tk tv : TE} {trs : List (TE × TE)} (hk : PE X k tk) (hv : PE X v tv) (hr : PPs X pos ks vs trs) :
    PPs X pos (some k :: ks) (v :: vs) ((tk, tv) :: trs) := fun pins s σ H Q I h =>
  pairTrees_cons_walk (thn (hk pins s σ H _ I h) fun u s1 ⟨x, H1, I1, rx, q1⟩ => thn (hv pins s1 σ H1 _ I1 q1) fun w2 s2 ⟨y, H2, I2, ry, q2⟩ =>
    thn (hr pins s2 σ H2 _ I2 q2) fun ws s3 ⟨ps, H3, I3, rel, q3⟩ => ⟨(x, y) :: ps, H3, I3, .cons ⟨rx, ry⟩ rel, q3⟩)

def mergeK (kvs more : List (Key × V)) : List (Key × V) := more.foldl (fun acc kv => putK acc kv.1 kv.2) kvs
theorem KV.merge : ∀ {more : List (Key × V)} {rs : List (Key × Value)} {kvs : List (Key × V)} {vs : List (Key × Value)}, KV more rs → KV kvs vs → KV (mergeK kvs more) (merged vs rs) := by
  intro more rs kvs vs r
  unfold KV at r
  induction r generalizing kvs vs with
  | nil => intro q; exact q
  | @cons p q ps qs h t ih =>
    intro r0
    have e : KV (putK kvs p.1 p.2) (stored vs q.1 q.2) := by
      have := r0.put p.1 h.2
      rw [← h.1]; exact this
    exact ih e
theorem length_mergeK : ∀ (more kvs : List (Key × V)), (mergeK kvs more).length ≤ kvs.length + more.length
  | [], kvs => by show kvs.length ≤ kvs.length + 0; omega
  | p :: r, kvs => by
    have h1 := length_mergeK r (putK kvs p.1 p.2)
    have h2 := length_putK kvs p.1 p.2
    show (mergeK (putK kvs p.1 p.2) r).length ≤ _
    rw [List.length_cons]; omega
theorem carries_of {P : Program} {w : World} : ∀ {kvs : List (Key × V)} {ws : List (Value × Value)}, VV (kvs.map fun kv => (kV kv.1, kv.2)) ws → ∃ rs, Carries (mixKind P w) ws rs ∧ KV kvs rs
  | [], _, r => by rw [List.map_nil] at r; cases r; exact ⟨[], True.intro, .nil⟩
  | p :: kvs, _, r => by
    rw [List.map_cons] at r
    cases r with
    | @cons a b as bs h t =>
      obtain ⟨rs, c, q⟩ := carries_of (P := P) (w := w) t
      obtain ⟨b1, b2⟩ := b
      exact ⟨(p.1, b2) :: rs, ⟨kV_is h.1, rfl, c⟩, .cons ⟨rfl, h.2⟩ q⟩
/-- {k: v, ..} with keys ints and texts; the new dict stands empty while the pairs are made -/
def tDisp (trs : List (TE × TE)) : TE := fun σ H Q => ∀ p, H p = none → tPairs trs σ (upd H p (.dK [])) fun ps H2 => H2 p = some (.dK []) ∧ ∃ kvs : List (Key × V), ps = kvs.map (fun kv => (kV kv.1, kv.2)) ∧ kvs.length ≤ 15 ∧ Q (.ref p) (upd H2 p (.dK (mergeK [] kvs)))
theorem pe_disp {X : Cx} {pos : Pos} {keys : List (Option Expr)} {values : List Expr} {trs : List (TE × TE)} (h : PPs X pos keys values trs) (hall : keys.all (·.isSome) = true) (hl : keys.length = values.length) (h0 : keys ≠ [])
    (h15 : keys.length ≤ 15) : PE X (.Dict keys values pos) (tDisp trs) := by
  intro pins s σ H Q I q
  have hn := I.hok.fresh (Nat.le_refl s.heap.objs.size)
  have I1 := I.laid (a := s.heap.objs.size) (o := .dK []) (h' := s.heap.push { cls := .type "dict", data := .dict #[] }) (t' := s.toks) (fun _ _ q => Heap.get?_push_of_some _ q) (Nat.le_refl _) (dk_empty s.heap I.big)
  refine wpAny_Dict_walk (knd := mixKind X.prog X.w) hall hl h0 h15 (thn (h pins _ σ _ _ I1 (q _ hn)) fun ws s2 ⟨ps, H2, I2, rel, e, kvs, ep, lk, q2⟩ => ?_)
  subst ep
  obtain ⟨rs, c, rk⟩ := carries_of (P := X.prog) (w := X.w) rel
  obtain ⟨z, hd, vs0, r0, dd⟩ := dk_of I2.hok e
  cases r0
  refine ⟨rs, c, dd, fun h' dd' hs => ⟨.ref s.heap.objs.size, _, ?_, rfl, q2⟩⟩
  have hz : (mergeK [] kvs).length ≤ sizeLine := by
    have h1 := length_mergeK kvs []
    rw [List.length_nil] at h1
    rw [sizeLine_eq]; omega
  have he : ∃ q, h'.get? s.heap.objs.size = some q := let ⟨q, _, _, hq, _⟩ := dd'; ⟨q, hq⟩
  exact d_write I2 (by rw [e]; exact True.intro) hs he (dk_new hz hd (rk.merge .nil) dd')



/-- a method call o.m(e) of a built-in, with one argument: what must be seen of the text -/
structure M1 (X : Cx) (o : Expr) (m : Str) (apos : Pos) (e : Expr) (cpos : Pos) : Prop where
  base : attributeBase o m X.env (eval o X.env) = eval o X.env
  few : ((backTo cpos (starEach [e] X.env)).all (fun x => !x.1) && (backToKw cpos (keywordEach [] X.env)).all (fun x => x.1.isSome)
    && decide (([e] : List Expr).length + ([] : List Keyword).length + (if ([] : List Keyword).isEmpty then 0 else 1) < 30)) = true
  line : (apos.endLine == cpos.line) = true
  trees : backTo cpos (starEach [e] X.env) = [(false, eval e X.env)]
structure M2 (X : Cx) (o : Expr) (m : Str) (apos : Pos) (e f : Expr) (cpos : Pos) : Prop where
  base : attributeBase o m X.env (eval o X.env) = eval o X.env
  few : ((backTo cpos (starEach [e, f] X.env)).all (fun x => !x.1) && (backToKw cpos (keywordEach [] X.env)).all (fun x => x.1.isSome)
    && decide (([e, f] : List Expr).length + ([] : List Keyword).length + (if ([] : List Keyword).isEmpty then 0 else 1) < 30)) = true
  line : (apos.endLine == cpos.line) = true
  trees : backTo cpos (starEach [e, f] X.env) = [(false, eval e X.env), (false, eval f X.env)]

/-- a is a dict, whatever its keys -/
def IsD (H : Hp) (a : Addr) : Prop := (∃ kvs, Rd H a (.dK kvs)) ∨ ∃ kvs, Rd H a (.dT kvs)
theorem isD_at {X : Cx} {pins : List (Addr × Obj)} {σ : St} {H : Hp} {s : Shared} {a : Addr} (I : Inv X pins σ H s) (d : IsD H a) :
    s.TypeIs (.ref a) "dict" ∧ (∀ b, Value.ref a = .ref b → ∃ ob, s.heap.get? b = some ob ∧ ob.dict = none) ∧ (a == sysModules) = false := by
  rcases d with ⟨kvs, e⟩ | ⟨kvs, e⟩
  · obtain ⟨_, hd, vs, _, dd⟩ := dk_rd I.hok e
    refine ⟨dd.typeIs, fun b q => ?_, hd⟩
    cases q
    obtain ⟨ob, _, _, h1, h2, _⟩ := dd
    exact ⟨ob, h1, h2.2.1⟩
  · obtain ⟨_, hd, xs, _, dd⟩ := dt_rd I.hok e
    refine ⟨dd.typeIs, fun b q => ?_, hd⟩
    cases q
    obtain ⟨ob, _, _, h1, h2, _⟩ := dd
    exact ⟨ob, h1, h2.2.1⟩

section
variable {X : Cx} {pins : List (Addr × Obj)} {σ : St} {H : Hp} {s : Shared} {a : Addr} {y d : V} {u r : Value} {o : Option V} {A : Around} {E : Value → Shared → Prop}
/-- d.get(y) -/
theorem d_get1 {Q : Value → Shared → Prop} (hu : A.units + 1 < cLine) (I : Inv X pins σ H s) (g : DGet H a y o) (ry : RelV y u) (h : ∀ w' s', Inv X pins σ H s' → RelV (o.getD .non) w' → Q w' s') :
    wpAny (model X.prog X.w) A (call (.builtin "dict.get") [.ref a, u]) Q E s := by
  rcases g with ⟨kvs, k, e, ey, l⟩ | ⟨kvs, k, b, e, ey, eb, l⟩
  · subst ey
    obtain ⟨z, hd, vs, rel, dd⟩ := dk_rd I.hok e
    refine call_meetsIn PySem.F.slot_dict_get dd.typeIs PySem.F.entry_dict_get (PySem.F.args_dict_get_2 _ _) (meets_dict_get (mixKind X.prog X.w) a (kV_is ry) hd) ⟨_, dd.mapOf, h _ _ (I.tok _) ?_⟩
    rw [l]
    exact (rel.val k).getD rfl
  · subst ey
    cases (show u = Value.ref b from ry)
    obtain ⟨z, hd, xs, rel, dd⟩ := dt_rd I.hok e
    refine call_meetsIn PySem.F.slot_dict_get dd.typeIs PySem.F.entry_dict_get (PySem.F.args_dict_get_2 _ _) (meetsH_dict_get (tupleKind (mixKind X.prog X.w)) a b hd) ⟨tupleKind_room_in1 hu, k, xs, key_of I.hok eb, dd, h _ _ (I.tok _) ?_⟩
    rw [l]
    exact (rel.val k).getD rfl
/-- d.get(y, x) -/
theorem d_get2 {Q : Value → Shared → Prop} (hu : A.units + 1 < cLine) (I : Inv X pins σ H s) (g : DGet H a y o) (ry : RelV y u) (rd : RelV d r) (h : ∀ w' s', Inv X pins σ H s' → RelV (o.getD d) w' → Q w' s') :
    wpAny (model X.prog X.w) A (call (.builtin "dict.get") [.ref a, u, r]) Q E s := by
  rcases g with ⟨kvs, k, e, ey, l⟩ | ⟨kvs, k, b, e, ey, eb, l⟩
  · subst ey
    obtain ⟨z, hd, vs, rel, dd⟩ := dk_rd I.hok e
    refine call_meetsIn PySem.F.slot_dict_get dd.typeIs PySem.F.entry_dict_get (PySem.F.args_dict_get_3 _ _ _) (meets_dict_get_default (mixKind X.prog X.w) a (kV_is ry) hd r) ⟨_, dd.mapOf, h _ _ (I.tok _) ?_⟩
    rw [l]
    exact (rel.val k).getD rd
  · subst ey
    cases (show u = Value.ref b from ry)
    obtain ⟨z, hd, xs, rel, dd⟩ := dt_rd I.hok e
    refine call_meetsIn PySem.F.slot_dict_get dd.typeIs PySem.F.entry_dict_get (PySem.F.args_dict_get_3 _ _ _) (meetsH_dict_get_default (tupleKind (mixKind X.prog X.w)) a b hd r) ⟨tupleKind_room_in1 hu, k, xs, key_of I.hok eb, dd, h _ _ (I.tok _) ?_⟩
    rw [l]
    exact (rel.val k).getD rd
end

def tDGet1 (td ty : TE) : TE := fun σ H Q => td σ H fun x H1 => ∃ a, x = .ref a ∧ IsD H1 a ∧ ty σ H1 fun y H2 => ∃ o, DGet H2 a y o ∧ Q (o.getD .non) H2
def tDGet2 (td ty tx : TE) : TE := fun σ H Q => td σ H fun x H1 => ∃ a, x = .ref a ∧ IsD H1 a ∧ ty σ H1 fun y H2 => tx σ H2 fun z H3 => ∃ o, DGet H3 a y o ∧ Q (o.getD z) H3
/-- d.pop(k): there; d.pop(k, x): there or not -/
def tDPop1 (td ty : TE) : TE := fun σ H Q => td σ H fun x H1 => ∃ a, x = .ref a ∧ IsD H1 a ∧ ty σ H1 fun y H2 => ∃ kvs k v, H2 a = some (.dK kvs) ∧ y = kV k ∧ valV kvs k = some v ∧ Q v (upd H2 a (.dK (dropK kvs k)))
def tDPop2 (td ty tx : TE) : TE := fun σ H Q => td σ H fun x H1 => ∃ a, x = .ref a ∧ IsD H1 a ∧ ty σ H1 fun y H2 => tx σ H2 fun z H3 => ∃ kvs k, H3 a = some (.dK kvs) ∧ y = kV k ∧
  (∀ v, valV kvs k = some v → Q v (upd H3 a (.dK (dropK kvs k)))) ∧ (valV kvs k = none → Q z H3)
section
variable {X : Cx} {o e f : Expr} {apos cpos : Pos} {td ty tx : TE}
theorem pe_dget1 (hu : X.A.units + 1 < cLine) (ho : PE X o td) (he : PE X e ty) (m : M1 X o "get" apos e cpos) : PE X (.Call (.Attribute o "get" apos) [e] [] cpos) (tDGet1 td ty) := by
  intro pins s σ H Q I h
  refine wpAny_Call_method m.base m.few m.line PySem.F.plainAttrs_dict PySem.F.slot_dict_get PySem.F.type_dict_get (thn (ho pins s σ H _ I h) fun u s1 ⟨x, H1, I1, rx, a, ex, d, q1⟩ => ?_)
  subst ex
  obtain rfl : u = Value.ref a := rx
  obtain ⟨t1, t2, _⟩ := isD_at I1 d
  refine ⟨t1, t2, ?_⟩
  rw [m.trees]
  refine Calls.callWith_builtin rfl (Calls.evalArgs_plain (Calls.spliced_cons (thn (he pins s1 σ H1 _ I1 q1) fun iv s2 ⟨y, H2, I2, ry, ov, g, q2⟩ => Calls.spliced_nil ?_)))
  exact d_get1 hu I2 g ry fun w' s3 I3 rw' => ⟨_, H2, I3, rw', q2⟩
theorem pe_dget2 (hu : X.A.units + 1 < cLine) (ho : PE X o td) (he : PE X e ty) (hf : PE X f tx) (m : M2 X o "get" apos e f cpos) : PE X (.Call (.Attribute o "get" apos) [e, f] [] cpos) (tDGet2 td ty tx) := by
  intro pins s σ H Q I h
  refine wpAny_Call_method m.base m.few m.line PySem.F.plainAttrs_dict PySem.F.slot_dict_get PySem.F.type_dict_get (thn (ho pins s σ H _ I h) fun u s1 ⟨x, H1, I1, rx, a, ex, d, q1⟩ => ?_)
  subst ex
  obtain rfl : u = Value.ref a := rx
  obtain ⟨t1, t2, _⟩ := isD_at I1 d
  refine ⟨t1, t2, ?_⟩
  rw [m.trees]
  refine Calls.callWith_builtin rfl (Calls.evalArgs_plain (Calls.spliced_cons (thn (he pins s1 σ H1 _ I1 q1) fun iv s2 ⟨y, H2, I2, ry, q2⟩ =>
    Calls.spliced_cons (thn (hf pins s2 σ H2 _ I2 q2) fun fv s3 ⟨z, H3, I3, rz, ov, g, q3⟩ => Calls.spliced_nil ?_))))
  exact d_get2 hu I3 g ry rz fun w' s4 I4 rw' => ⟨_, H3, I4, rw', q3⟩
theorem pe_dpop1 (ho : PE X o td) (he : PE X e ty) (m : M1 X o "pop" apos e cpos) : PE X (.Call (.Attribute o "pop" apos) [e] [] cpos) (tDPop1 td ty) := by
  intro pins s σ H Q I h
  refine wpAny_Call_method m.base m.few m.line PySem.F.plainAttrs_dict PySem.F.slot_dict_pop PySem.F.type_dict_pop (thn (ho pins s σ H _ I h) fun u s1 ⟨x, H1, I1, rx, a, ex, d, q1⟩ => ?_)
  subst ex
  obtain rfl : u = Value.ref a := rx
  obtain ⟨t1, t2, _⟩ := isD_at I1 d
  refine ⟨t1, t2, ?_⟩
  rw [m.trees]
  refine Calls.callWith_builtin rfl (Calls.evalArgs_plain (Calls.spliced_cons (thn (he pins s1 σ H1 _ I1 q1) fun iv s2 ⟨y, H2, I2, ry, kvs, k, v, ea, ey, l, q2⟩ => Calls.spliced_nil ?_)))
  subst ey
  exact d_pop I2 ea ry l (.inl rfl) fun w' s3 I3 rw' => ⟨v, _, I3, rw', q2⟩
theorem pe_dpop2 (ho : PE X o td) (he : PE X e ty) (hf : PE X f tx) (m : M2 X o "pop" apos e f cpos) : PE X (.Call (.Attribute o "pop" apos) [e, f] [] cpos) (tDPop2 td ty tx) := by
  intro pins s σ H Q I h
  refine wpAny_Call_method m.base m.few m.line PySem.F.plainAttrs_dict PySem.F.slot_dict_pop PySem.F.type_dict_pop (thn (ho pins s σ H _ I h) fun u s1 ⟨x, H1, I1, rx, a, ex, d, q1⟩ => ?_)
  subst ex
  obtain rfl : u = Value.ref a := rx
  obtain ⟨t1, t2, _⟩ := isD_at I1 d
  refine ⟨t1, t2, ?_⟩
  rw [m.trees]
  refine Calls.callWith_builtin rfl (Calls.evalArgs_plain (Calls.spliced_cons (thn (he pins s1 σ H1 _ I1 q1) fun iv s2 ⟨y, H2, I2, ry, q2⟩ =>
    Calls.spliced_cons (thn (hf pins s2 σ H2 _ I2 q2) fun fv s3 ⟨z, H3, I3, rz, kvs, k, ea, ey, q3, q4⟩ => Calls.spliced_nil ?_))))
  subst ey
  cases l : valV kvs k with
  | some v => exact d_pop I3 ea ry l (.inr ⟨fv, rfl⟩) fun w' s4 I4 rw' => ⟨v, _, I4, rw', q3 v l⟩
  | none => exact d_popD I3 ea ry l fun s4 I4 => ⟨z, H3, I4, rz, q4 l⟩
end


section
variable {X : Cx} {pins : List (Addr × Obj)} {σ : St} {H : Hp} {s : Shared} {a : Addr} {kvs : List (Key × V)} {A : Around} {E : Value → Shared → Prop}
theorem d_copyOf {Q : Value → Shared → Prop} (I : Inv X pins σ H s) (e : Rd H a (.dK kvs)) (h : ∀ p s', H p = none → Inv X pins σ (upd H p (.dK kvs)) s' → Q (.ref p) s') : wpAny (model X.prog X.w) A (call (.type "dict") [.ref a]) Q E s := by
  obtain ⟨z, hd, vs, rel, dd⟩ := dk_rd I.hok e
  refine kt_call_dict hd dd (by rw [← rel.length]; exact z) fun h' dd' hs => ?_
  refine h _ _ (I.hok.fresh (Nat.le_refl _)) (I.laid (a := s.heap.objs.size) (o := .dK kvs) (t' := s.toks) (fun b q hq => ?_) (Nat.le_refl _) (dk_new z (beq_eq_false_iff_ne.mpr (Ne.symm (Nat.ne_of_lt I.big))) rel dd'))
  exact (hs.2 b (Nat.ne_of_lt (Heap.lt_size hq))).trans (Heap.get?_push_of_some _ hq)
end


section
variable {X : Cx} {pins : List (Addr × Obj)} {σ : St} {H : Hp} {s : Shared} {a : Addr} {y : V} {u : Value} {A : Around} {E : Value → Shared → Prop}
/-- d[y], not there: a KeyError -/
theorem d_missing {Q : Value → Shared → Prop} (hu : A.units + 1 < cLine) (hh : A.handled = none) (I : Inv X pins σ H s) (g : DGet H a y none) (ry : RelV y u)
    (h : ∀ h' e t', Heap.NewExc s.heap h' e "KeyError" → E (.ref e) { s with heap := h', toks := t' }) : wpAny (model X.prog X.w) A (getItem (.ref a) u) Q E s := by
  rcases g with ⟨kvs, k, e, ey, l⟩ | ⟨kvs, k, b, e, ey, eb, l⟩
  · subst ey
    obtain ⟨z, hd, vs, rel, dd⟩ := dk_rd I.hok e
    have hn : valueAt vs k = none := RelO.none_of (by rw [l]; exact rel.val k)
    exact wpAny_getItem_missing_of (kV_is ry) hd hh dd.mapOf hn fun h' ex ne => h h' ex _ ne
  · subst ey
    cases (show u = Value.ref b from ry)
    obtain ⟨z, hd, xs, rel, dd⟩ := dt_rd I.hok e
    have hn : (atKey xs k).map (·.2) = none := RelO.none_of (by rw [l]; exact rel.val k)
    exact wpAny_getItem_missing_heap (tupleKind_room_in1 hu) (key_of I.hok eb) hd hh dd (Option.map_eq_none_iff.mp hn) fun h' ex ne => h h' ex _ ne
end
end L2

namespace Att
open PySem PySem.W PySem.Calls PyProof.Rows


section
variable {prog : Program} {w : World} {A : Around} {E : Value → Shared → Prop} {s : Shared} {K : Frag}

end
end Att

namespace L2
open PySem PySem.Spec PyProof.Rows

end L2

namespace L2
open PySem PySem.Spec PyProof.Rows

end L2




namespace L2
open PySem PySem.Spec PyProof.Rows


section
variable {P : Program} {w : World} {K : PySem.W.Frag} {mg : Str → Option Value} {base : Heap}
end
section
variable {X : Cx}
/-- len of a dict -/
theorem call_lenD : CallR X (.builtin "len") (fun xs H Q => ∃ a kvs, xs = [V.ref a] ∧ H a = some (.dK kvs) ∧ Q (.int kvs.length) H) := by
  intro pins s σ H xs us Q I r h
  obtain ⟨a, kvs, rfl, ha, q⟩ := h
  obtain ⟨u, rfl, ru⟩ := vals1 r
  cases ru
  exact d_len I (.inl ha) fun t s' I' => ⟨.int kvs.length, H, I', ⟨t, rfl⟩, q⟩
end


section
variable {κ : Type} [DecidableEq κ]
theorem valV_not {kvs : List (κ × V)} {k : κ} (h : valV kvs k = none) : ¬ k ∈ kvs.map (·.1) := by
  intro m
  obtain ⟨p, hp, e⟩ := List.mem_map.mp m
  have q : (kvs.any fun kv => decide (kv.1 = k)) = true := List.any_eq_true.mpr ⟨p, hp, decide_eq_true e⟩
  rw [valV_any, h] at q
  exact absurd q (by simp)
theorem valV_in {kvs : List (κ × V)} {k : κ} {v : V} (h : valV kvs k = some v) : k ∈ kvs.map (·.1) := by
  have q : (kvs.any fun kv => decide (kv.1 = k)) = true := by
    rw [valV_any, h]
    all_goals rfl
  obtain ⟨p, hp, e⟩ := List.any_eq_true.mp q
  exact List.mem_map.mpr ⟨p, hp, of_decide_eq_true e⟩
theorem nd_snoc : ∀ {l : List κ} {k : κ}, l.Nodup → ¬ k ∈ l → (l ++ [k]).Nodup
  | [], k, _, _ => by simp
  | a :: r, k, h, hk => by
    obtain ⟨h1, h2⟩ := List.nodup_cons.mp h
    show (a :: (r ++ [k])).Nodup
    refine List.nodup_cons.mpr ⟨fun m => ?_, nd_snoc h2 fun m => hk (List.mem_cons.mpr (Or.inr m))⟩
    rcases List.mem_append.mp m with q | q
    · exact h1 q
    · exact hk (List.mem_cons.mpr (Or.inl (List.mem_singleton.mp q).symm))
theorem nd_putK {kvs : List (κ × V)} {k : κ} (v : V) (hn : (kvs.map (·.1)).Nodup) (h : valV kvs k = none) : ((putK kvs k v).map (·.1)).Nodup := by
  rw [putK_new v h, List.map_append]
  exact nd_snoc hn (valV_not h)
theorem dropK_pos {p : κ × V} {r : List (κ × V)} {k : κ} (e : p.1 = k) : dropK (p :: r) k = dropK r k := by
  unfold dropK
  rw [List.filter_cons, if_neg (by simp [e])]
theorem dropK_neg {p : κ × V} {r : List (κ × V)} {k : κ} (e : ¬ p.1 = k) : dropK (p :: r) k = p :: dropK r k := by
  unfold dropK
  rw [List.filter_cons, if_pos (by simp [e])]
theorem dropK_no : ∀ {kvs : List (κ × V)} {k : κ}, ¬ k ∈ kvs.map (·.1) → dropK kvs k = kvs
  | [], _, _ => rfl
  | p :: r, k, h => by
    have h' : ¬ k ∈ r.map (·.1) := fun m => by
      obtain ⟨q, hq, e⟩ := List.mem_map.mp m
      exact h (List.mem_map.mpr ⟨q, List.mem_cons.mpr (Or.inr hq), e⟩)
    rw [dropK_neg fun e => h (List.mem_map.mpr ⟨p, List.mem_cons.mpr (Or.inl rfl), e⟩), dropK_no h']
theorem dropK_mem {kvs : List (κ × V)} {k : κ} {p : κ × V} (h : p ∈ dropK kvs k) : p ∈ kvs := (List.mem_filter.mp h).1
theorem nd_dropK : ∀ {kvs : List (κ × V)} {k : κ}, (kvs.map (·.1)).Nodup → ((dropK kvs k).map (·.1)).Nodup
  | [], _, _ => List.nodup_nil
  | p :: r, k, h => by
    have h : (p.1 :: r.map (·.1)).Nodup := h
    obtain ⟨h1, h2⟩ := List.nodup_cons.mp h
    by_cases e : p.1 = k
    · rw [dropK_pos e]
      exact nd_dropK h2
    · rw [dropK_neg e]
      show (p.1 :: (dropK r k).map (·.1)).Nodup
      refine List.nodup_cons.mpr ⟨fun m => h1 ?_, nd_dropK h2⟩
      obtain ⟨q, hq, eq⟩ := List.mem_map.mp m
      exact List.mem_map.mpr ⟨q, dropK_mem hq, eq⟩
theorem dropK_len : ∀ {kvs : List (κ × V)} {k : κ}, (kvs.map (·.1)).Nodup → k ∈ kvs.map (·.1) → (dropK kvs k).length + 1 = kvs.length
  | [], _, _, m => by simp at m
  | p :: r, k, h, m => by
    have h : (p.1 :: r.map (·.1)).Nodup := h
    have m : k = p.1 ∨ k ∈ r.map (·.1) := List.mem_cons.mp m
    obtain ⟨h1, h2⟩ := List.nodup_cons.mp h
    by_cases e : p.1 = k
    · subst e
      rw [dropK_pos rfl, dropK_no h1]
      all_goals rfl
    · have m' : k ∈ r.map (·.1) := m.resolve_left fun z => e z.symm
      have q := dropK_len h2 m'
      rw [dropK_neg e, List.length_cons, List.length_cons]
      omega
end
end L2

/-! ## classes without an __init__, and a method of one of several classes -/
namespace L2
open PySem PySem.Spec PyProof.Rows
/-- a class that is made by object's own __init__ -/
structure MkN (K : PySem.W.Frag) (C : Addr) : Prop where
  makes : PySem.W.makesIn K C = true
  init : PySem.W.findIn K (.ref C) "__init__" = some (some (.builtin "object.__init__"))
  kp : PySem.W.keepIn K (.ref C) = true
section
variable {X : Cx} {C : Addr}
theorem run_makeN {pins : List (Addr × Obj)} {σ : St} {H : Hp} {s : Shared} {Q : VK} (M : MkN X.K C) (I : Inv X pins σ H s)
    (h : ∀ x dx, H x = none → H dx = none → dx ≠ x → Q (.ref x) (upd (upd H dx (.own x)) x (.ins C dx []))) :
    wpAny (model X.prog X.w) X.A (call (.ref C) []) (EP X pins σ Q) X.xe s := by
  have hq := h (s.heap.objs.size + 1) s.heap.objs.size (I.hok.fresh (Nat.le_succ _)) (I.hok.fresh (Nat.le_refl _)) (Nat.ne_of_lt (Nat.lt_succ_self _))
  have I2 := Inv.made (C := C) I
  have Y := PySem.W.makes_of (M := model X.prog X.w) I.kIn M.makes
  have e2 : ((s.heap.push PySem.W.emptyDict).push (PySem.W.instObj C s.heap.objs.size)).get? (s.heap.objs.size + 1) = some (PySem.W.instObj C s.heap.objs.size) := by
    have := Heap.get?_push_size (s.heap.push PySem.W.emptyDict) (o := PySem.W.instObj C s.heap.objs.size) rfl
    rwa [Heap.size_push] at this
  refine wpAny_call (make_map0 I.kIn M.makes M.init (fun self => PySem.W.Looks.of_pure (PySem.W.oi_bind self)) ?_)
  have t1 : PySem.W.Looks (model X.prog X.w) ((s.heap.push PySem.W.emptyDict).push (PySem.W.instObj C s.heap.objs.size)) (typeOf (.ref (s.heap.objs.size + 1))) (.ref C) := (PySem.W.Looks.ld e2).andThen .now
  have t2 : PySem.W.Looks (model X.prog X.w) ((s.heap.push PySem.W.emptyDict).push (PySem.W.instObj C s.heap.objs.size)) (isInstance (.ref (s.heap.objs.size + 1)) (.type "object")) true := t1.andThen (Y.top.keeps fun b o e => Heap.get?_push_of_some _ (Heap.get?_push_of_some _ e))
  refine codeAny_call_builtin PySem.W.oi_plain PySem.W.entry_oi (@PySem.W.check_slot (model X.prog X.w) _ _ _ "object.__init__" "object" "__init__" (.ref (s.heap.objs.size + 1)) [] [] _ PySem.W.oi_kind PySem.W.oi_split t2 (PySem.W.oi_args (.ref (s.heap.objs.size + 1))) ?_)
  rw [PySem.W.oi_run]
  exact wpAny_pure (And.intro rfl ⟨V.ref (s.heap.objs.size + 1), _, I2, rfl, hq⟩)
def tMakeN (C : Addr) : TE := fun _ H Q => ∀ x dx, H x = none → H dx = none → dx ≠ x → Q (.ref x) (upd (upd H dx (.own x)) x (.ins C dx []))
theorem pe_makeN {x : Str} {p pos : Pos} (M : MkN X.K C) (hg : Gl X x) (hm : X.mg x = some (.ref C)) (hdb : (x == ("__debug__" : Str)) = false := by decide) : PE X (.Call (.Name x p) [] [] pos) (tMakeN C) := by
  intro pins s σ H Q I h
  refine wpAny_Call_Name_kw (ld_glob I hg hm ?_ hdb)
  exact PySem.W.callWith_K0 I.kIn M.kp (run_makeN M I h)
end
section
variable {X : Cx} {CX : CXT} {k : Nat} {ι : Type} {C f : ι → Addr} {fd : ι → FuncData} {ps : List Str} {sp : ι → Sp} {E : XK} {m : Str} {pos apos : Pos} {e o : Expr} {es : List Expr} {ta : TE} {t : TA}
def tMethI (C : ι → Addr) (m : Str) (sp : ι → Sp) (E : XK) (ta : TE) (t : TA) : TE := fun σ H Q => ta σ H fun x H1 => ∃ (i : ι) (a dx : Addr) (fs : List (Str × V)), x = .ref a ∧ H1 a = some (.ins (C i) dx fs) ∧ fs.lookup m = none ∧ t σ H1 fun vs H2 => sp i (.ref a :: vs) H2 Q E
theorem pe_methI {pl : Sem Bool} (he : PE X o ta) (c : ∀ i, Cls X.K (C i)) (hm : ∀ i, Meth X.K (C i) m (f i)) (F : ∀ i, FnOk X.prog X.w X.K X.mg X.base CX k (f i) (fd i) ps (sp i)) (hr : Room k X.A) (hb : ∀ i, Binds X.K (fd i) ps []) (hx : Passes CX X E) (ha : PA X (e :: es) t)
    (hst : starEach (e :: es) X.env = (false, eval e X.env) :: starEach es X.env := by rfl) (hpl : (backTo pos (starEach es X.env)).any (·.1) = false := by rfl)
    (ht : eval (.Call (.Attribute o m apos) (e :: es) [] pos) X.env = (do
      let ov ← eval o X.env
      standAt apos.atName
      let (f, first) ← holding [ov] (getMethod ov m pl)
      callWith pos f first (backTo pos (starEach (e :: es) X.env)) (backToKw pos (keywordEach [] X.env))) := by rfl) :
    PE X (.Call (.Attribute o m apos) (e :: es) [] pos) (tMethI C m sp E ta t) := by
  intro pins s σ H Q I h
  refine PySem.W.methodCall_KW (pl := pl) (thn (he pins s σ H _ I h) fun u s1 ⟨x, H1, I1, rx, i, a, dx, fs, ex, ea, l, q⟩ => ?_) ht
  subst ex
  obtain rfl : u = Value.ref a := rx
  refine getmeth_ok I1 ea (c i) (hm i) l ?_
  refine PySem.W.callWith_K (first := [.ref a]) (h₀ := X.base) I.ok.mod.kin (hm i).kp (thn (ha pos pins s1 σ H1 _ I1 q) fun us s2 ⟨vs, H2, I2, r, q2⟩ => ⟨I2.kIn, ?_⟩) hst hpl
  exact run_fn (us := .ref a :: us) (vs := .ref a :: vs) (F i) hr (hb i) .nil hx I2 (.cons rfl r) (by rw [List.append_nil]; exact q2)
theorem pe_methI0 {pl : Sem Bool} (he : PE X o ta) (c : ∀ i, Cls X.K (C i)) (hm : ∀ i, Meth X.K (C i) m (f i)) (F : ∀ i, FnOk X.prog X.w X.K X.mg X.base CX k (f i) (fd i) ps (sp i)) (hr : Room k X.A) (hb : ∀ i, Binds X.K (fd i) ps []) (hx : Passes CX X E)
    (ht : eval (.Call (.Attribute o m apos) [] [] pos) X.env = (do
      let ov ← eval o X.env
      standAt apos.atName
      let (f, first) ← holding [ov] (getMethod ov m pl)
      callWith pos f first (backTo pos (starEach [] X.env)) (backToKw pos (keywordEach [] X.env))) := by rfl) :
    PE X (.Call (.Attribute o m apos) [] [] pos) (tMethI C m sp E ta tNil) := by
  intro pins s σ H Q I h
  refine PySem.W.methodCall_KW (pl := pl) (thn (he pins s σ H _ I h) fun u s1 ⟨x, H1, I1, rx, i, a, dx, fs, ex, ea, l, q⟩ => ?_) ht
  subst ex
  obtain rfl : u = Value.ref a := rx
  refine getmeth_ok I1 ea (c i) (hm i) l ?_
  exact PySem.W.callWith_K0 (first := [.ref a]) I1.kIn (hm i).kp (run_fn (us := [.ref a]) (vs := [.ref a]) (F i) hr (hb i) .nil hx I1 (.cons rfl .nil) q)
end
end L2
namespace L2
open PySem PySem.Spec PyProof.Rows
def clsBody (s : Stmt) : List Stmt := match s with
  | .ClassDef _ _ _ b _ _ _ _ _ _ _ => b
  | _ => []
/-- a method of a class: where it lies, how it binds -/
structure Mv (K : PySem.W.Frag) (x qual : Str) (st : Stmt) (ps : List Str) where
  f : Addr
  fd : FuncData
  F : Fun K x qual st f fd
  b : Binds K fd ps []
/-- what isinstance asks of an own class -/
structure Ty (K : PySem.W.Frag) (C : Addr) : Prop where
  cl : Cls K C
  ca : PySem.W.findIn K (.ref C) "__class__" = some (some (.builtin "object.__class__"))
  cg : PySem.W.specialIn K (.builtin "object.__class__") "__get__" = some (some (.builtin "getset_descriptor.__get__"))
  ct : PySem.W.takesIn K (.builtin "object.__class__") = some true
  mo : PySem.W.mroIn K C (.type "object") = some true
theorem Ty.of {K : PySem.W.Frag} {C a dx : Addr} {H : Hp} {fs : List (Str × V)} (T : Ty K C) (e : H a = some (.ins C dx fs)) : TyOf K H (.ref a) (.ref C) := .ins e T.cl T.ca T.cg T.ct T.mo
theorem same_made {H : Hp} {x dx C : Addr} (hx : H x = none) (hd : H dx = none) (hne : dx ≠ x) : Same H (upd (upd H dx (.own x)) x (.ins C dx [])) :=
  same_upd' (same_upd hd) (by rw [upd_ne (Ne.symm hne)]; exact hx)
end L2

/-! ## try with a handler that names nothing -/
namespace L2
open PySem PySem.Spec PyProof.Rows
section
variable {X : Cx} {body suite : List Stmt} {b₀ : Stmt} {t : TSx} {ts : Addr → Obj → TS} {c : Str} {c₀ : Value} {np hpos pos : Pos}
/-- try: body except c: suite -/
def tTryN (K : PySem.W.Frag) (c₀ : Value) (t : TSx) (ts : Addr → Obj → TS) : TS := fun D σ H => t D (fun C σ' H' => PySem.W.exmOne K C c₀ = some true ∧ ∀ (e : Addr) (oe : Obj), oe.cls = C → H' e = none → ts e oe { nx := D.nx, rt := D.rt, bk := D.bk, ct := D.ct } σ' H') σ H
theorem ps_tryN (hst : X.stack = X.env :: X.outer) (hfr : X.env.frame = some X.env.locals) (hg : Gl X c) (hm : X.mg c = some c₀)
    (hb : PXs X body t) (hs : ∀ e oe, PSs (X.caught e oe) (b₀ :: suite) (ts e oe)) (hdb : (c == ("__debug__" : Str)) = false := by decide) :
    PS X (.Try body [.ExceptHandler (some (.Name c np)) none (b₀ :: suite) hpos] [] [] pos) (tTryN X.K c₀ t ts) := by
  intro pins s σ H D I h
  refine wpAny_Try_except (wpAny_mono (hb pins s σ H D _ I h) (fun f s1 q => ?_) fun x s1 q => ?_)
  · cases f with
    | next => exact wpAny_execs_nil q
    | ret v => exact q
    | brk => exact q
    | cont => exact q
  obtain ⟨e, C, σ', H0, s0, H', rfl, I0, F, hx, q⟩ := q
  obtain ⟨B, a0, fl, a⟩ := F.fly
  rw [hst] at fl
  have frm : X.A.frames = some (X.env :: X.outer) := by rw [← hst]; exact I0.ok.frames
  refine wpAny_looks_onW (base := B) frm hfr fl fun h4 hd4 up4 => ?_
  have a4 : Aft X.prog X.w X.stack H0 H' s0 B h4 := a.next hd4.1 (by rw [hst]; exact fl.2.2.1) up4
  refine wpAny_landsW hd4 fun h5 fl5 up5 => ?_
  have a5 : Aft X.prog X.w X.stack H0 H' s0 B h5 := a4.next fl5.1 (by rw [hst]; exact hd4.2.2.1) up5
  obtain ⟨oe5, ws5, he5, hc5, hd5, _⟩ := fl5.first
  have J5 : Inv (X.caught e oe5) pins σ' H' { s1 with heap := h5 } := I0.caught (s' := { s1 with heap := h5 }) F.os F.bare a5.un a5.hok he5 F.new F.untr (fun v z => by rw [hd5] at z; cases z) hst
  refine wpAny_handleBy_cons (codeAny_handlers_test (ld_glob (X := X.caught e oe5) J5 hg hm ?_ hdb)) (by intro z; cases z)
  have LT : PySem.W.Looks (model X.prog X.w) h5 (typeOf (.ref e)) (.ref C) := hc5 ▸ (PySem.W.Looks.ld he5).andThen .now
  refine (PySem.W.exm_one (K := X.K) J5.kIn LT hx).here ?_
  refine codeAny_handlers_suite (lands_againW fl5 fun h6 fl6 up6 => ?_)
  have a6 : Aft X.prog X.w X.stack H0 H' s0 B h6 := a5.next fl6.1 (by rw [hst]; exact fl5.2.2.1) up6
  obtain ⟨oe, ws, he6, hc6, hd6, _⟩ := fl6.first
  have J6 : Inv (X.caught e oe) pins σ' H' { s1 with heap := h6 } := I0.caught (s' := { s1 with heap := h6 }) F.os F.bare a6.un a6.hok he6 F.new F.untr (fun v z => by rw [hd6] at z; cases z) hst
  refine wpAny_mono (hs e oe pins _ σ' H' _ J6 (q e oe hc6 F.untr)) (fun f s8 z => ?_) fun _ _ z => False.elim z
  cases f with
  | next =>
    obtain ⟨σ2, H2, I2, z⟩ := z
    exact ⟨_, H2, Inv.uncaught I0.ok I2, z⟩
  | brk =>
    obtain ⟨σ2, H2, I2, z⟩ := z
    exact ⟨_, H2, Inv.uncaught I0.ok I2, z⟩
  | cont =>
    obtain ⟨σ2, H2, I2, z⟩ := z
    exact ⟨_, H2, Inv.uncaught I0.ok I2, z⟩
  | ret u =>
    obtain ⟨v, σ2, H2, I2, r, z⟩ := z
    exact ⟨v, _, H2, Inv.uncaught I0.ok I2, r, z⟩
end
end L2

namespace L2
open PySem PySem.Spec PySem.Calls PyProof.Rows
/-- a comprehension with a test, over a list of known things, whose values are made anew -/
theorem comp_invF2 {K : PySem.W.Frag} {α : Type} {a : Addr} {ps : List α} {r : α → V} {k : Nat} {g : TG} {tf : TT} {te : TE} {σ : St} {H : Hp} {Q : VK} (J : Nat → List V → Hp → Prop) (j0 : J 0 [] H) (hq : ∀ i ys H', J i ys H' → SqL K H' a (ps.map r)) (hn : ∀ i ys H', J i ys H' → ys.length ≤ i) (hl : ps.length ≤ sizeLine)
    (hs : ∀ i x ys H', ps[i]? = some x → J i ys H' → g (r x) (List.replicate k none ++ σ) H' fun σ4 H4 => σ4.drop k = σ ∧ tf σ4 H4 fun b H5 => if b = true then te σ4 H5 fun y H6 => J (i + 1) (ys ++ [y]) H6 else J (i + 1) ys H5)
    (hd : ∀ ys H', J ps.length ys H' → NewL Q ys H') :
    ∃ W : Nat → Nat → List V → Hp → Prop, (∃ m, W 0 m [] H) ∧ ∀ i m ys H2, W i m ys H2 →
      ((Itl K a).stop i H2 ∧ NewL Q ys H2) ∨
      ((Itl K a).go i H2 ∧ ys.length < sizeLine ∧ ∀ x H3, (Itl K a).yld i H2 x H3 → g x (List.replicate k none ++ σ) H3 fun σ4 H4 => σ4.drop k = σ ∧ tf σ4 H4 fun b H5 =>
        if b = true then te σ4 H5 fun y H6 => ∃ m', m' < m ∧ W (i + 1) m' (ys ++ [y]) H6 else ∃ m', m' < m ∧ W (i + 1) m' ys H5) := by
  refine ⟨fun i m ys H2 => m = ps.length - i ∧ i ≤ ps.length ∧ J i ys H2, ⟨ps.length, by simp, Nat.zero_le _, j0⟩, ?_⟩
  rintro i m ys H2 ⟨rfl, hi, jj⟩
  have q2 : SqL K H2 a (ps.map r) := hq i ys H2 jj
  by_cases hlt : i < ps.length
  · refine .inr ⟨⟨ps.map r, r ps[i], q2, by simp [hlt]⟩, ?_, fun x H3 y => ?_⟩
    · have := hn i ys H2 jj
      omega
    · obtain ⟨e, y⟩ := y
      subst e
      have ex : (ps.map r)[i]? = some x := y _ q2
      have ei : ps[i]? = some ps[i] := by simp [hlt]
      have exr : x = r ps[i] := by rw [List.getElem?_map, ei] at ex; exact (Option.some.inj ex).symm
      subst exr
      have h := hs i ps[i] ys _ ei jj
      have key : ∀ zs H6, J (i + 1) zs H6 = ∃ m', m' < ps.length - i ∧ m' = ps.length - (i + 1) ∧ i + 1 ≤ ps.length ∧ J (i + 1) zs H6 := fun zs H6 => propext ⟨fun z => ⟨ps.length - (i + 1), by omega, rfl, hlt, z⟩, fun ⟨_, _, _, _, z⟩ => z⟩
      have fe : (fun (b : Bool) (H5 : Hp) (σ4 : St) => if b = true then te σ4 H5 (fun y H6 => J (i + 1) (ys ++ [y]) H6) else J (i + 1) ys H5) = fun b H5 σ4 => if b = true then te σ4 H5 (fun y H6 => ∃ m', m' < ps.length - i ∧ m' = ps.length - (i + 1) ∧ i + 1 ≤ ps.length ∧ J (i + 1) (ys ++ [y]) H6) else ∃ m', m' < ps.length - i ∧ m' = ps.length - (i + 1) ∧ i + 1 ≤ ps.length ∧ J (i + 1) ys H5 := by
        funext b H5 σ4
        rw [← key ys H5]
        congr 2
        funext y H6
        exact key _ _
      have fe' : ∀ b H5 σ4, (if b = true then te σ4 H5 (fun y H6 => J (i + 1) (ys ++ [y]) H6) else J (i + 1) ys H5) = if b = true then te σ4 H5 (fun y H6 => ∃ m', m' < ps.length - i ∧ m' = ps.length - (i + 1) ∧ i + 1 ≤ ps.length ∧ J (i + 1) (ys ++ [y]) H6) else ∃ m', m' < ps.length - i ∧ m' = ps.length - (i + 1) ∧ i + 1 ≤ ps.length ∧ J (i + 1) ys H5 := fun b H5 σ4 => congrFun (congrFun (congrFun fe b) H5) σ4
      simp only [fe'] at h
      exact h
  · have e : i = ps.length := by omega
    subst e
    exact .inl ⟨⟨ps.map r, q2, by simp⟩, hd ys H2 jj⟩
end L2


/-! ## a method that may raise, within a try; sorted(d.items()) of an empty dict -/
namespace L2
open PySem PySem.Spec PyProof.Rows
section
variable {X : Cx} {k : Nat} {f C : Addr} {fd : FuncData} {ps : List Str} {sp : Sp} {m : Str} {pos apos : Pos} {e o : Expr} {es : List Expr} {ta : TE} {t : TA}
def xMeth (C : Addr) (m : Str) (sp : Sp) (ta : TE) (t : TA) : TEx := fun σ H Q Ex => ta σ H fun x H1 => ∃ (a dx : Addr) (fs : List (Str × V)), x = .ref a ∧ H1 a = some (.ins C dx fs) ∧ fs.lookup m = none ∧ t σ H1 fun vs H2 => sp (x :: vs) H2 Q fun C' _ H3 => Ex C' H3
theorem pex_meth {pl : Sem Bool} (ho : PE X.nox o ta) (c : Cls X.K C) (hm : Meth X.K C m f) (F : FnOk X.prog X.w X.K X.mg X.base (CXb X.prog X.w) k f fd ps sp) (hr : Room k X.A) (hb : Binds X.K fd ps []) (ha : PA X.nox (e :: es) t)
    (hst : starEach (e :: es) X.env = (false, eval e X.env) :: starEach es X.env := by rfl) (hpl : (backTo pos (starEach es X.env)).any (·.1) = false := by rfl)
    (ht : eval (.Call (.Attribute o m apos) (e :: es) [] pos) X.env = (do
      let ov ← eval o X.env
      standAt apos.atName
      let (f, first) ← holding [ov] (getMethod ov m pl)
      callWith pos f first (backTo pos (starEach (e :: es) X.env)) (backToKw pos (keywordEach [] X.env))) := by rfl) :
    PEx X (.Call (.Attribute o m apos) (e :: es) [] pos) (xMeth C m sp ta t) := by
  intro pins s σ H Q Ex I h
  refine PySem.W.methodCall_KW (pl := pl) (wpAny_mono (ho pins s σ H _ (I.wish _) h) (fun u s1 ⟨x, H1, I1, rx, a, dx, fs, ex, ea, l, q⟩ => ?_) fun _ _ z => False.elim z) ht
  subst ex
  obtain rfl : u = Value.ref a := rx
  have J1 : Inv X pins σ H1 s1 := I1.unwish
  refine getmeth_ok J1 ea c hm l ?_
  refine PySem.W.callWith_K (first := [.ref a]) (h₀ := X.base) I.ok.mod.kin hm.kp (wpAny_mono (ha pos pins s1 σ H1 _ I1 q) (fun us s2 ⟨vs, H2, I2, r, q2⟩ => ⟨I2.kIn, ?_⟩) fun _ _ z => False.elim z) hst hpl
  have J2 : Inv X pins σ H2 s2 := I2.unwish
  have r2 : Vals (.ref a :: vs) (.ref a :: us) := .cons rfl r
  have hl : (Value.ref a :: us).length = ps.length := by rw [← r2.length]; exact F.len _ _ _ _ q2
  have hbb := hb s2 (.ref a :: us) J2.kIn (by rw [List.append_nil]; exact hl)
  rw [List.append_nil] at hbb
  refine wpAny_call (codeAny_mono (F.run X.A X.stack s2 H2 ⟨.ref a :: us, []⟩ (.ref a :: us) (.ref a :: vs) Q _ hr J2.env0 hbb r2 q2) fun r s' hq => ?_)
  cases r with
  | error x' =>
    obtain ⟨a', C', H', e1, Fl, z⟩ := hq
    exact ⟨a', C', σ, H2, s2, H', e1, J2, Fl, rfl, z⟩
  | ok fl =>
    cases fl with
    | ret u => exact J2.after hq
    | next => exact False.elim hq
    | brk => exact False.elim hq
    | cont => exact False.elim hq
end
section
variable {X : Cx} {o : Expr} {to : TE} {p apos cpos pos : Pos}
def tSrtItems0 (to : TE) : TE := fun σ H Q => to σ H fun x H1 => ∃ d, x = .ref d ∧ H1 d = some (.dK []) ∧ ∀ l, H1 l = none → Q (.ref l) (upd H1 l (.lst []))
theorem pe_srtItems0 (hc : X.calm = true) (hg : Gl X "sorted") (hm : X.mg "sorted" = none) (ho : PE X o to)
    (hbase : attributeBase o "items" X.env (eval o X.env) = eval o X.env := by rfl) (hline : (apos.endLine == cpos.line) = true := by rfl)
    (he : starEach [.Call (.Attribute o "items" apos) [] [] cpos] X.env = [(false, eval (.Call (.Attribute o "items" apos) [] [] cpos) X.env)] := by rfl) :
    PE X (.Call (.Name "sorted" p) [.Call (.Attribute o "items" apos) [] [] cpos] [] pos) (tSrtItems0 to) := by
  intro pins s σ H Q I h
  refine wpAny_Call_Name_kw (ld_blt I hg hm boot_sorted ?_)
  refine PyProof.Rows.callWith_builtin1 ?_ he rfl
  rw [he]
  show wpAny _ _ (spliced ((false, eval (.Call (.Attribute o "items" apos) [] [] cpos) X.env) :: backTo pos [])) _ _ s
  refine Calls.spliced_cons (wpAny_Call_method0_late hbase hline (thn (ho pins s σ H _ I h) fun u s1 ⟨x, H1, I1, rx, d, ex, ed, q⟩ => ?_))
  subst ex
  obtain rfl : u = Value.ref d := rx
  obtain ⟨_, hd, vs, rel, dd⟩ := dk_of I1.hok ed
  cases rel
  obtain ⟨ep, da⟩ := dd.dictAt
  refine ⟨"dict", "dict.items", PySem.F.plainAttrs_dict, PySem.F.slot_dict_items, PySem.F.type_dict_items, dd.typeIs, fun b q => ?_, Calls.callWith_builtin rfl (PySem.evalArgs_none (call_meetsIn PySem.F.slot_dict_items dd.typeIs PySem.F.entry_dict_items (PySem.F.args_dict_items_1 _) (meets_dict_items (mixKind X.prog X.w) d hd) ⟨⟨[], dd⟩, ?_⟩))⟩
  · cases q
    obtain ⟨ob, _, _, h1, h2, _⟩ := dd
    exact ⟨ob, h1, h2.2.1⟩
  refine Calls.spliced_nil ?_
  refine Calls.call_function_entry kind_sorted plain_sorted entry_sorted (args_sorted1 _) ?_
  unfold Builtin.«sorted»
  refine wpAny_bind (m := checkCount "sorted" 1 1 _) (wpAny_pure ?_)
  refine wpAny_bind (PySem.W.kdx_collect (A := X.A.in1) (knd := mixKind X.prog X.w) (kvs := []) (ep := ep) (I1.ok.hd hc) ⟨_, Heap.get?_push_size _ rfl, rfl, rfl⟩ (da.push _) (Nat.zero_le _) fun h' tk as hk hl hG => ?_)
  obtain rfl : as = [] := List.length_eq_zero_iff.mp hl
  refine wpAny_bind (wpAny_newList ?_ (Nat.zero_le _))
  have hoL : (h'.push (seqObj "list" #[] 0)).get? h'.objs.size = some (seqObj "list" ([] : List Value).toArray 0) := Heap.get?_push_size _ rfl
  refine wpAny_bind (wpAny_holding (wpAny_call_entry slot_list_sort ⟨_, hoL, rfl⟩ entry_list_sort (list_sort_tree (ns := []) hoL (intsAre_of (ns := []) .nil) (by decide) fun out ns' a1 a2 a3 => ⟨_, rfl, ?_⟩) (args_list_sort _)))
  have en : ns' = [] := List.perm_nil.mp a2
  have eo : out = #[] := by
    have z := a1.length
    rw [en] at z
    exact Array.toList_eq_nil_iff.mp (List.length_eq_zero_iff.mp z)
  have lt1 : s1.heap.objs.size < h'.objs.size := Heap.lt_size (hk _ _ (Heap.get?_push_size _ rfl))
  obtain ⟨ee, he2⟩ := sortedHeap_at (vs := []) (out := out) hoL
  refine wpAny_pure ⟨_, rfl, .ref h'.objs.size, _, I1.laid (t' := tk) (fun b u e => ?_) (Nat.le_of_lt lt1) (show ObjOk X.prog X.w _ _ _ (.lst []) from ⟨Nat.zero_le _, [], ee, .nil, ?_⟩), rfl, q _ (I1.hok.fresh (Nat.le_of_lt lt1))⟩
  · have hb : h'.get? b = some u := hk b u (Heap.get?_push_of_some _ e)
    have lb := Heap.lt_size hb
    rw [sortedHeap_old (Nat.ne_of_lt lb) (by rw [size_push']; exact Nat.lt_succ_of_lt lb)]
    exact Heap.get?_push_of_some _ hb
  · rw [eo] at he2 ⊢
    exact he2
end
end L2

/-! ## the walk of a sort by questions, where the keys are all unlike: it ends with the places in the order of their ranks -/
namespace L2
open PySem PySem.W PyProof.Rows
section
variable {n : Nat} {rk : Nat → Nat} {cmp : Nat → Nat → (Bool → Shared → Prop) → Shared → Prop} {s : Shared}
/-- a question about two places is answered by their ranks, and nothing else happens -/
def ByRank (n : Nat) (rk : Nat → Nat) (cmp : Nat → Nat → (Bool → Shared → Prop) → Shared → Prop) (s : Shared) : Prop := ∀ (i j : Nat) (C : Bool → Shared → Prop), i < n → j < n → i ≠ j → C (decide (rk i < rk j)) s → cmp i j C s
def RkInj (n : Nat) (rk : Nat → Nat) : Prop := ∀ i j, i < n → j < n → rk i = rk j → i = j
def gk (rk : Nat → Nat) (p : Array Nat) (k : Nat) : Nat := rk (p.getD k 0)
def Pm (n : Nat) (p : Array Nat) : Prop := p.toList.Perm (List.range n)
def Srt (rk : Nat → Nat) (p : Array Nat) (m : Nat) : Prop := ∀ i j, i ≤ j → j < m → gk rk p i ≤ gk rk p j
def Dec (rk : Nat → Nat) (p : Array Nat) (m : Nat) : Prop := ∀ i j, i ≤ j → j < m → gk rk p j ≤ gk rk p i
theorem Pm.size {p : Array Nat} (h : Pm n p) : p.size = n := by
  have := h.length_eq
  rw [List.length_range, Array.length_toList] at this
  exact this
theorem getD_get {p : Array Nat} {k : Nat} (h : k < p.size) : p.getD k 0 = p[k] := by
  simp [Array.getD, h]
theorem Pm.lt {p : Array Nat} (h : Pm n p) {k : Nat} (hk : k < n) : p.getD k 0 < n := by
  have hs : k < p.size := by rw [h.size]; exact hk
  rw [getD_get hs]
  have : p[k] ∈ List.range n := h.mem_iff.mp (by simp)
  exact List.mem_range.mp this
theorem Pm.dif {p : Array Nat} (h : Pm n p) {i j : Nat} (h1 : i < n) (h2 : j < n) (d : i ≠ j) : p.getD i 0 ≠ p.getD j 0 := fun e1 => by
  have s1 : i < p.size := by rw [h.size]; exact h1
  have s2 : j < p.size := by rw [h.size]; exact h2
  rw [getD_get s1, getD_get s2] at e1
  have nd : p.toList.Nodup := h.nodup_iff.mpr List.nodup_range
  have pw := List.pairwise_iff_getElem.mp nd
  have t1 : i < p.toList.length := by rw [Array.length_toList]; exact s1
  have t2 : j < p.toList.length := by rw [Array.length_toList]; exact s2
  have e2 : p.toList[i] = p.toList[j] := by rw [Array.getElem_toList, Array.getElem_toList]; exact e1
  rcases Nat.lt_trichotomy i j with c | c | c
  · exact pw i j t1 t2 c e2
  · exact d c
  · exact pw j i t2 t1 c e2.symm
theorem Pm.ne {p : Array Nat} (h : Pm n p) (hi : RkInj n rk) {i j : Nat} (h1 : i < n) (h2 : j < n) (e : gk rk p i = gk rk p j) : i = j := by
  by_cases c : i = j
  · exact c
  · exact absurd (hi _ _ (h.lt h1) (h.lt h2) e) (h.dif h1 h2 c)
theorem Pm.of {p q : Array Nat} (h : Pm n p) (e : q.Perm p) : Pm n q := (Array.perm_iff_toList_perm.mp e).trans h
theorem gk_congr {p q : Array Nat} {i j : Nat} (e : p[i]? = q[j]?) : gk rk p i = gk rk q j := by
  unfold gk
  congr 1
  rw [Array.getD_eq_getD_getElem?, Array.getD_eq_getD_getElem?, e]
theorem gk_mirror {p : Array Nat} {m : Nat} (hm : m ≤ p.size) (k : Nat) : gk rk (kas_rev p 0 m) k = if k < m then gk rk p (m - 1 - k) else gk rk p k := by
  have e := getElem?_mirror_all (i := 0) hm k
  unfold kas_rev
  by_cases h : k < m
  · rw [if_pos ⟨Nat.zero_le _, h⟩] at e
    rw [if_pos h]
    exact gk_congr (by rw [e]; congr 1; omega)
  · rw [if_neg (by omega)] at e
    rw [if_neg h]
    exact gk_congr e
theorem gk_bubble {p : Array Nat} {k d : Nat} (hk : k < p.size) (hd : d ≤ k) (j : Nat) : gk rk (bubble p k d) j = if j = k - d then gk rk p k else if k - d < j ∧ j ≤ k then gk rk p (j - 1) else gk rk p j := by
  have e := getElem?_bubble hk d hd j
  by_cases h : j = k - d
  · rw [if_pos h] at e ⊢
    exact gk_congr e
  · rw [if_neg h] at e ⊢
    by_cases h2 : k - d < j ∧ j ≤ k
    · rw [if_pos h2] at e ⊢
      exact gk_congr e
    · rw [if_neg h2] at e ⊢
      exact gk_congr e
theorem asc_wp (B : ByRank n rk cmp s) {p : Array Nat} (hp : Pm n p) {Q : Nat → Shared → Prop} : ∀ (f m : Nat), 1 ≤ m → m + f ≤ n → Srt rk p m → (∀ t, m ≤ t → t ≤ m + f → Srt rk p t → (t = m + f ∨ gk rk p t < gk rk p (t - 1)) → Q t s) → (kas_asc p f m).kasWp cmp Q s
  | 0, m, _, _, hs, h => h m (Nat.le_refl _) (Nat.le_refl _) hs (.inl rfl)
  | f + 1, m, h1, hn, hs, h => by
    refine B _ _ _ (hp.lt (by omega)) (hp.lt (by omega)) (hp.dif (by omega) (by omega) (by omega)) ?_
    by_cases c : rk (p.getD m 0) < rk (p.getD (m - 1) 0)
    · rw [decide_eq_true c]
      exact h m (Nat.le_refl _) (by omega) hs (.inr c)
    · rw [decide_eq_false c]
      refine asc_wp B hp f (m + 1) (by omega) (by omega) (fun i j hij hj => ?_) fun t a b c d => h t (by omega) (by omega) c (by rcases d with d | d; exact .inl (by omega); exact .inr d)
      by_cases hj' : j < m
      · exact hs i j hij hj'
      · have ej : j = m := by omega
        subst ej
        by_cases hi : i = j
        · subst hi; exact Nat.le_refl _
        · exact Nat.le_trans (hs i (j - 1) (by omega) (by omega)) (Nat.le_of_not_lt c)
theorem desc_wp (B : ByRank n rk cmp s) (hi : RkInj n rk) {p : Array Nat} (hp : Pm n p) {Q : Array Nat × Nat × Nat → Shared → Prop} : ∀ (f m : Nat), 1 ≤ m → m + f ≤ n → Dec rk p m → (∀ t, m ≤ t → t ≤ m + f → Dec rk p t → Q (p, t, 0) s) → (kas_desc f p m 0).kasWp cmp Q s
  | 0, m, _, _, hs, h => h m (Nat.le_refl _) (Nat.le_refl _) hs
  | f + 1, m, h1, hn, hs, h => by
    refine B _ _ _ (hp.lt (by omega)) (hp.lt (by omega)) (hp.dif (by omega) (by omega) (by omega)) ?_
    by_cases c : rk (p.getD m 0) < rk (p.getD (m - 1) 0)
    · rw [decide_eq_true c]
      refine desc_wp B hi hp f (m + 1) (by omega) (by omega) (fun i j hij hj => ?_) fun t a b c => h t (by omega) (by omega) c
      by_cases hj' : j < m
      · exact hs i j hij hj'
      · have ej : j = m := by omega
        subst ej
        by_cases hi : i = j
        · subst hi; exact Nat.le_refl _
        · exact Nat.le_trans (Nat.le_of_lt c) (hs i (j - 1) (by omega) (by omega))
    · rw [decide_eq_false c]
      refine B _ _ _ (hp.lt (by omega)) (hp.lt (by omega)) (hp.dif (by omega) (by omega) (by omega)) ?_
      have ne : gk rk p m ≠ gk rk p (m - 1) := fun e => by
        have := hp.ne hi (by omega) (by omega) e
        omega
      have : rk (p.getD (m - 1) 0) < rk (p.getD m 0) := Nat.lt_of_le_of_ne (Nat.le_of_not_lt c) (fun e => ne e.symm)
      rw [decide_eq_true this]
      exact h m (Nat.le_refl _) (by omega) hs
theorem tail3_wp (B : ByRank n rk cmp s) {p : Array Nat} (hp : Pm n p) {Q : Nat × Array Nat → Shared → Prop} {m : Nat} (h1 : 1 ≤ m) (hm : m ≤ n) (hs : Dec rk p m) (h : ∀ t q, Pm n q → 1 ≤ t → t ≤ n → Srt rk q t → Q (t, q) s) : (kas_tail3 m n p).kasWp cmp Q s := by
  unfold kas_tail3
  rw [KasT.kasWp_bind]
  have hq : Pm n (kas_rev p 0 m) := hp.of (mirror_perm _ _ _ _)
  refine asc_wp B hq (n - m) m h1 (by omega) (fun i j hij hj => ?_) fun t a b c _ => h t _ hq (by omega) (by omega) c
  have z : m ≤ p.size := by rw [hp.size]; exact hm
  rw [gk_mirror z, gk_mirror z, if_pos (by omega), if_pos hj]
  exact hs _ _ (by omega) (by omega)
theorem descPart_wp (B : ByRank n rk cmp s) (hi : RkInj n rk) {p : Array Nat} (hp : Pm n p) {Q : Nat × Array Nat → Shared → Prop} {m : Nat} (hm : m + 1 ≤ n) (hs : Dec rk p (m + 1)) (h : ∀ t q, Pm n q → 1 ≤ t → t ≤ n → Srt rk q t → Q (t, q) s) : (kas_descPart m n p).kasWp cmp Q s := by
  unfold kas_descPart
  rw [KasT.kasWp_bind]
  refine desc_wp B hi hp (n - (m + 1)) (m + 1) (by omega) (by omega) hs fun t a b c => ?_
  show (kas_tail3 t n p).kasWp cmp Q s
  exact tail3_wp B hp (by omega) (by omega) c h
theorem count_wp (B : ByRank n rk cmp s) (hi : RkInj n rk) {p : Array Nat} (hp : Pm n p) {Q : Nat × Array Nat → Shared → Prop} (h1 : 1 ≤ n) (h : ∀ t q, Pm n q → 1 ≤ t → t ≤ n → Srt rk q t → Q (t, q) s) : (kas_count n p).kasWp cmp Q s := by
  unfold kas_count
  rw [KasT.kasWp_bind]
  refine asc_wp B hp (n - 1) 1 (Nat.le_refl _) (by omega) (fun i j hij hj => ?_) fun t a b hs hor => ?_
  · have : i = j := by omega
    subst this
    exact Nat.le_refl _
  by_cases e : t = n
  · subst e
    rw [if_pos (by simp)]
    exact h t p hp a (Nat.le_refl _) hs
  · rw [if_neg (by simpa using e)]
    have lt : gk rk p t < gk rk p (t - 1) := hor.resolve_left (by omega)
    by_cases g : t > 1
    · rw [if_pos g]
      refine B _ _ _ (hp.lt (by omega)) (hp.lt (by omega)) (hp.dif (by omega) (by omega) (by omega)) ?_
      have ne : gk rk p 0 ≠ gk rk p (t - 1) := fun z => by
        have := hp.ne hi (by omega) (by omega) z
        omega
      have : rk (p.getD 0 0) < rk (p.getD (t - 1) 0) := Nat.lt_of_le_of_ne (hs 0 (t - 1) (by omega) (by omega)) ne
      rw [decide_eq_true this]
      exact h t p hp (by omega) (by omega) hs
    · rw [if_neg g]
      have : t = 1 := by omega
      subst this
      refine descPart_wp B hi hp (by omega) (fun i j hij hj => ?_) h
      by_cases hij' : i = j
      · subst hij'; exact Nat.le_refl _
      · have : i = 0 := by omega
        have : j = 1 := by omega
        subst i j
        exact Nat.le_of_lt lt
theorem place_wp (B : ByRank n rk cmp s) {p : Array Nat} (hp : Pm n p) {k : Nat} (hk : k < n) {Q : Nat → Shared → Prop} (hs : Srt rk p k) : ∀ (f l r : Nat), l ≤ r → r ≤ k → r - l ≤ f → (∀ i, i < l → gk rk p i ≤ gk rk p k) → (∀ i, r ≤ i → i < k → gk rk p k < gk rk p i) → (∀ t, t ≤ k → (∀ i, i < t → gk rk p i ≤ gk rk p k) → (∀ i, t ≤ i → i < k → gk rk p k < gk rk p i) → Q t s) → (kas_place p k f l r).kasWp cmp Q s
  | 0, l, r, h1, h2, h3, a, b, h => h l (by omega) a fun i x y => b i (by omega) y
  | f + 1, l, r, h1, h2, h3, a, b, h => by
    unfold kas_place
    by_cases c : l ≥ r
    · rw [if_pos c]
      exact h l (by omega) a fun i x y => b i (by omega) y
    · rw [if_neg c]
      refine B _ _ _ (hp.lt hk) (hp.lt (by omega)) (hp.dif hk (by omega) (by omega)) ?_
      by_cases d : rk (p.getD k 0) < rk (p.getD ((l + r) / 2) 0)
      · rw [decide_eq_true d]
        refine place_wp B hp hk hs f l ((l + r) / 2) (by omega) (by omega) (by omega) a (fun i x y => ?_) h
        exact Nat.lt_of_lt_of_le d (hs _ i x y)
      · rw [decide_eq_false d]
        refine place_wp B hp hk hs f ((l + r) / 2 + 1) r (by omega) (by omega) (by omega) (fun i x => ?_) b h
        exact Nat.le_trans (hs i ((l + r) / 2) (by omega) (by omega)) (Nat.le_of_not_lt d)
theorem bin_wp (B : ByRank n rk cmp s) {Q : Array Nat → Shared → Prop} : ∀ (f : Nat) (p : Array Nat) (k : Nat), Pm n p → k + f = n → Srt rk p k → (∀ q, Pm n q → Srt rk q n → Q q s) → (kas_bin f p k).kasWp cmp Q s
  | 0, p, k, hp, e, hs, h => h p hp (by rw [← e]; exact hs)
  | f + 1, p, k, hp, e, hs, h => by
    unfold kas_bin
    rw [KasT.kasWp_bind]
    refine place_wp B hp (by omega) hs k 0 k (Nat.zero_le _) (Nat.le_refl _) (by omega) (fun i x => by omega) (fun i x y => by omega) fun t ht lo hi => ?_
    refine bin_wp B f _ (k + 1) (hp.of (bubble_perm _ _ _)) (by omega) (fun i j hij hj => ?_) h
    have z : k < p.size := by rw [hp.size]; omega
    rw [gk_bubble z (by omega), gk_bubble z (by omega)]
    have ek : k - (k - t) = t := by omega
    rw [ek]
    by_cases c1 : i = t
    · rw [if_pos c1]
      by_cases c2 : j = t
      · rw [if_pos c2]; exact Nat.le_refl _
      · rw [if_neg c2, if_pos (by omega)]
        exact Nat.le_of_lt (hi _ (by omega) (by omega))
    · rw [if_neg c1]
      by_cases c3 : t < i ∧ i ≤ k
      · rw [if_pos c3, if_neg (by omega), if_pos (by omega)]
        exact hs _ _ (by omega) (by omega)
      · rw [if_neg c3]
        have hit : i < t := by omega
        by_cases c2 : j = t
        · rw [if_pos c2]; exact lo i hit
        · rw [if_neg c2]
          by_cases c4 : t < j ∧ j ≤ k
          · rw [if_pos c4]; exact hs _ _ (by omega) (by omega)
          · rw [if_neg c4]; exact hs _ _ hij (by omega)
theorem sort_wp (B : ByRank n rk cmp s) (hi : RkInj n rk) {Q : Array Nat → Shared → Prop} (h1 : 1 ≤ n) (h : ∀ q, Pm n q → Srt rk q n → Q q s) : (kas_sort n).kasWp cmp Q s := by
  unfold kas_sort
  rw [KasT.kasWp_bind]
  have h0 : Pm n (List.toArray (List.range n)) := by show List.Perm _ _; exact List.Perm.refl _
  refine count_wp B hi h0 h1 fun t q hq a b hs => ?_
  by_cases c : t < n
  · rw [if_pos c]
    have : max t 1 = t := by omega
    rw [this]
    exact bin_wp B (n - t) q t hq (by omega) hs h
  · rw [if_neg c]
    have : t = n := by omega
    subst this
    exact h q hq hs
end
end L2

namespace L2
open PySem PySem.W PyProof.Rows
section
variable {prog : Program} {w : World} {A : Around} {E : Value → Shared → Prop} {s : Shared}
/-- the heap in which a sort asks -/
def midHeap (h : Heap) (a : Addr) (vs : List Value) : Heap := ((h.update a (Obj.mapSeq fun _ => #[])).push (seqObj "tuple" vs.toArray 0)).push (seqObj "list" #[] 0)
theorem midHeap_old {h : Heap} {a b : Addr} {vs : List Value} (nb : b ≠ a) (lb : b < h.objs.size) : (midHeap h a vs).get? b = h.get? b := by
  unfold midHeap
  rw [Heap.get?_push_ne _ _ _ (by rw [size_push', Heap.size_update]; exact Nat.ne_of_lt (Nat.lt_succ_of_lt lb)),
    Heap.get?_push_ne _ _ _ (by rw [Heap.size_update]; exact Nat.ne_of_lt lb), Heap.get?_update_ne _ _ _ _ nb]
def outOf (vs : List Value) (q : Array Nat) : List Value := q.toList.map fun i => vs.getD i Value.none
theorem outOf_range (vs : List Value) : outOf vs (List.toArray (List.range vs.length)) = vs := by
  unfold outOf
  apply List.ext_getElem
  · simp
  · intro i h1 h2
    simp [h2]
theorem list_sort_rk {rk : Nat → Nat} {a : Addr} {vs : List Value} {n : Nat} {P : PySem.Fin → Shared → Prop} (atL : s.heap.get? a = some (seqObj "list" vs.toArray n)) (h64 : vs.length < 64) (hi : RkInj vs.length rk)
    (hk : 2 ≤ vs.length → wpAny (model prog w) A (keyKind' vs.toArray) (fun κ s' => s' = { s with heap := midHeap s.heap a vs } ∧ ByRank vs.length rk (kas_ask prog w A κ vs) s') (fun _ _ => False) { s with heap := midHeap s.heap a vs })
    (h : ∀ q, Pm vs.length q → Srt rk q vs.length → P (.done (.ret .none)) { s with heap := sortedHeap s.heap a vs (outOf vs q).toArray }) :
    wpAny (model prog w) A (Builtin.«list.sort» ⟨[.ref a], []⟩) P E s := by
  rw [list_sort_plain]
  have la : a < s.heap.objs.size := Heap.lt_size atL
  obtain ⟨ep1, atE⟩ : ∃ ep1, (s.heap.update a (Obj.mapSeq fun _ => (#[] : Array Value))).get? a = some (seqObj "list" #[] ep1) := ⟨_, get?_update_seq atL (fun _ => #[])⟩
  have atM : (midHeap s.heap a vs).get? a = some (seqObj "list" #[] ep1) := by
    unfold midHeap
    rw [Heap.get?_push_ne _ _ _ (by rw [size_push', Heap.size_update]; exact Nat.ne_of_lt (Nat.lt_succ_of_lt la)), Heap.get?_push_ne _ _ _ (by rw [Heap.size_update]; exact Nat.ne_of_lt la)]
    exact atE
  refine wpAny_bind (listItems_at atL rfl (wpAny_bind (listUpdate_at atL rfl (wpAny_bind (seqEpoch_at atE rfl ?_)) (by rw [List.size_toArray, sizeLine_eq]; omega) (Nat.zero_le _))))
  refine wpAny_bind (wpAny_newTuple (wpAny_bind (wpAny_newList (wpAny_holding ?_) (Nat.zero_le _))) (by show vs.length ≤ _; rw [sizeLine_eq]; omega))
  show wpAny (model prog w) A _ P E { s with heap := midHeap s.heap a vs }
  dsimp only
  by_cases few : vs.toArray.size < 2
  · rw [if_pos few, if_pos few]
    refine wpAny_bind (wpAny_pure ?_)
    rw [StateT.run_pure]
    refine wpAny_bind (wpAny_pure ?_)
    dsimp only
    have ev : (arrOf (SortSt.mk' general' (vs.toArray.zip vs.toArray) #[] 7 none)).map (·.2) = vs.toArray := by
      show (vs.toArray.zip vs.toArray).map (·.2) = vs.toArray
      apply Array.toList_inj.mp
      simp [List.map_snd_zip]
    refine wpAny_bind (seqEpoch_at atM rfl ?_)
    rw [ev]
    refine wpAny_bind (listUpdate_at atM rfl ?_ (Nat.zero_le _) (by rw [List.size_toArray, sizeLine_eq]; omega))
    simp only [bne_self_eq_false, Bool.false_eq_true, if_false]
    have fin := h (List.toArray (List.range vs.length)) (List.Perm.refl _) (fun i j hij hj => by
      have : i = j := by rw [List.size_toArray] at few; omega
      subst this
      exact Nat.le_refl _)
    rw [outOf_range] at fin
    exact wpAny_pure fin
  have h2 : 2 ≤ vs.length := by rw [List.size_toArray] at few; omega
  rw [if_neg few, if_neg few]
  refine wpAny_bind (wpAny_mono (hk h2) (fun κ s0 hk => ?_) fun _ _ x => x.elim)
  obtain ⟨rfl, B⟩ := hk
  refine wpAny_bind (wpAny_mono (kat_run (Q := fun st' s' => s' = { s with heap := midHeap s.heap a vs } ∧ ∃ p : Array Nat, Pm vs.length p ∧ Srt rk p vs.length ∧ arrOf st' = p.map (kas_item (vs.toArray.zip vs.toArray)) ∧ failedOf st' = none)
    rfl h2 h64 (fun p' st' s' a1 a2 a3 a4 => ⟨a4.1, p', a4.2.1, a4.2.2, a2, a3⟩) (sort_wp B hi (Q := fun p s' => s' = { s with heap := midHeap s.heap a vs } ∧ Pm vs.length p ∧ Srt rk p vs.length) (by omega) fun q hq hs => ⟨rfl, hq, hs⟩)) ?_ fun _ _ e => e)
  rintro ⟨⟨⟩, st'⟩ s' ⟨rfl, p, hp, hs, arr, nof⟩
  dsimp only
  have outq := kat_snds (ks := vs) (vs := vs) rfl arr
  rw [outq]
  have szq : (List.toArray (p.toList.map fun i => vs.getD i Value.none)).size = vs.length := by rw [List.size_toArray, List.length_map, Array.length_toList, hp.size]
  refine wpAny_bind (seqEpoch_at atM rfl ?_)
  refine wpAny_bind (listUpdate_at atM rfl ?_ (Nat.zero_le _) (Nat.le_trans (Nat.le_of_eq szq) (by rw [sizeLine_eq]; omega)))
  rw [nof]
  simp only [bne_self_eq_false, Bool.false_eq_true, if_false]
  exact wpAny_pure (h p hp hs)
end
/-! ### ranks of texts -/
def keyL (x : Str) : List Nat := x.cps.toList
theorem keyL_inj {x y : Str} (e : keyL x = keyL y) : x = y := by
  cases x; cases y
  unfold keyL at e
  congr 1
  exact Array.toList_inj.mp e
def rkS (xs : List Str) (i : Nat) : Nat := (xs.countP fun y => decide (keyL y < keyL (xs.getD i Str.empty)))
theorem countP_lt {α : Type} {p q : α → Bool} : ∀ {l : List α} {x : α}, (∀ y, p y = true → q y = true) → x ∈ l → p x = false → q x = true → l.countP p < l.countP q
  | y :: l, x, h, m, hp, hq => by
    rw [List.countP_cons, List.countP_cons]
    rcases List.mem_cons.mp m with rfl | m
    · rw [if_neg (by simp [hp]), if_pos hq]
      have := List.countP_mono_left (l := l) (p := p) (q := q) fun y _ => h y
      omega
    · have := countP_lt h m hp hq
      by_cases c : p y = true
      · rw [if_pos c, if_pos (h y c)]; omega
      · rw [if_neg c]; split <;> omega
theorem rkS_lt {xs : List Str} {i j : Nat} (h1 : i < xs.length) : keyL (xs.getD i Str.empty) < keyL (xs.getD j Str.empty) → rkS xs i < rkS xs j := fun h => by
  refine countP_lt (x := xs.getD i Str.empty) (fun y hy => ?_) ?_ ?_ ?_
  · simp only [decide_eq_true_eq] at hy ⊢
    exact List.lt_trans hy h
  · rw [List.getD_eq_getElem?_getD, List.getElem?_eq_getElem h1]
    exact List.getElem_mem h1
  · simp only [decide_eq_false_iff_not]
    exact List.lt_irrefl _
  · simpa using h
theorem rkS_iff {xs : List Str} (nd : xs.Nodup) {i j : Nat} (h1 : i < xs.length) (h2 : j < xs.length) (d : i ≠ j) : decide (rkS xs i < rkS xs j) = decide (keyL (xs.getD i Str.empty) < keyL (xs.getD j Str.empty)) := by
  have ne : keyL (xs.getD i Str.empty) ≠ keyL (xs.getD j Str.empty) := fun e => by
    have e' := keyL_inj e
    rw [List.getD_eq_getElem?_getD, List.getElem?_eq_getElem h1, List.getD_eq_getElem?_getD, List.getElem?_eq_getElem h2] at e'
    have pw := List.pairwise_iff_getElem.mp nd
    rcases Nat.lt_trichotomy i j with c | c | c
    · exact pw i j h1 h2 c e'
    · exact d c
    · exact pw j i h2 h1 c e'.symm
  by_cases c : keyL (xs.getD i Str.empty) < keyL (xs.getD j Str.empty)
  · rw [decide_eq_true c, decide_eq_true (rkS_lt h1 c)]
  · rw [decide_eq_false c]
    have c' : keyL (xs.getD j Str.empty) < keyL (xs.getD i Str.empty) := by
      by_cases c2 : keyL (xs.getD j Str.empty) < keyL (xs.getD i Str.empty)
      · exact c2
      · exact absurd (List.le_antisymm (List.not_lt.mp c2) (List.not_lt.mp c)) ne
    have := rkS_lt h2 c'
    exact decide_eq_false (by omega)
theorem rkS_inj {xs : List Str} (nd : xs.Nodup) : RkInj xs.length (rkS xs) := fun i j h1 h2 e => by
  by_cases d : i = j
  · exact d
  · have a := rkS_iff nd h1 h2 d
    have b := rkS_iff nd h2 h1 (Ne.symm d)
    rw [e] at a
    rw [← e] at b
    have a' := of_decide_eq_false (a.symm.trans (by simp))
    have b' := of_decide_eq_false (b.symm.trans (by simp))
    have e' := keyL_inj (List.le_antisymm (List.not_lt.mp b') (List.not_lt.mp a'))
    rw [List.getD_eq_getElem?_getD, List.getElem?_eq_getElem h1, List.getD_eq_getElem?_getD, List.getElem?_eq_getElem h2] at e'
    have pw := List.pairwise_iff_getElem.mp nd
    rcases Nat.lt_trichotomy i j with c | c | c
    · exact absurd e' (pw i j h1 h2 c)
    · exact c
    · exact absurd e'.symm (pw j i h2 h1 c)
end L2

/-! ## sorted(d.items()) of a dict of texts -/
namespace L2
open PySem PySem.W PyProof.Rows
theorem paired_get {α β : Type} {F : α → β → Prop} : ∀ {l : List α} {m : List β} {j : Nat} {a : α}, Paired F l m → l[j]? = some a → ∃ b, m[j]? = some b ∧ F a b
  | _, _, 0, a, .cons h _, e => ⟨_, rfl, by cases e; exact h⟩
  | _, _, j + 1, a, .cons _ t, e => paired_get (j := j) t e
theorem paired_len {α β : Type} {F : α → β → Prop} : ∀ {l : List α} {m : List β}, Paired F l m → l.length = m.length
  | _, _, .nil => rfl
  | _, _, .cons _ t => congrArg (· + 1) (paired_len t)
theorem paired_both {α β γ : Type} {F : α → γ → Prop} {G : β → γ → Prop} : ∀ (l : List α) (m : List β), l.length = m.length → (∀ (j : Nat) a b, l[j]? = some a → m[j]? = some b → ∃ c, F a c ∧ G b c) → ∃ cs, Paired F l cs ∧ Paired G m cs
  | [], [], _, _ => ⟨[], .nil, .nil⟩
  | a :: l, b :: m, e, h => by
    obtain ⟨c, f, g⟩ := h 0 a b rfl rfl
    obtain ⟨cs, fs, gs⟩ := paired_both l m (Nat.succ.inj e) fun j x y p q => h (j + 1) x y p q
    exact ⟨c :: cs, .cons f fs, .cons g gs⟩
theorem paired_map2 {ι α β : Type} {F : α → β → Prop} {f : ι → α} {g : ι → β} : ∀ (l : List ι), (∀ i ∈ l, F (f i) (g i)) → Paired F (l.map f) (l.map g)
  | [], _ => .nil
  | i :: l, h => .cons (h i List.mem_cons_self) (paired_map2 l fun j m => h j (List.mem_cons_of_mem _ m))
theorem paired_mem {α β : Type} {F G : α → β → Prop} : ∀ {l : List α} {m : List β}, Paired F l m → (∀ a ∈ l, ∀ b, F a b → G a b) → Paired G l m
  | _, _, .nil, _ => .nil
  | _, _, .cons f t, h => .cons (h _ List.mem_cons_self _ f) (paired_mem t fun a m => h a (List.mem_cons_of_mem _ m))
theorem paired_right {α β : Type} {F : α → β → Prop} : ∀ {l : List α} {m : List β} {b : β}, Paired F l m → b ∈ m → ∃ a, F a b
  | _, _, b, .cons f t, h => by
    rcases List.mem_cons.mp h with rfl | h
    · exact ⟨_, f⟩
    · exact paired_right t h
theorem refs_getD {as : List Addr} {i : Nat} {a : Addr} (e : as[i]? = some a) : (as.map Value.ref).getD i Value.none = .ref a := by
  rw [List.getD_eq_getElem?_getD, List.getElem?_map, e]
  rfl
def tpl (p : Str × V) : HO := .tup [.str p.1, p.2]
def layT (H : Hp) : List Addr → List (Str × V) → Hp
  | a :: as, p :: ps => upd (layT H as ps) a (tpl p)
  | _, _ => H
theorem layT_not {H : Hp} {b : Addr} : ∀ (as : List Addr) (ps : List (Str × V)), b ∉ as → layT H as ps b = H b
  | [], _, _ => rfl
  | _ :: _, [], _ => rfl
  | a :: as, p :: ps, h => by
    show upd (layT H as ps) a (tpl p) b = _
    rw [upd_ne (fun e => h (by rw [e]; exact List.mem_cons_self)), layT_not as ps fun m => h (List.mem_cons_of_mem _ m)]
theorem layT_at {H : Hp} : ∀ {as : List Addr} {ps : List (Str × V)} {j : Nat} {a : Addr} {p : Str × V}, as.Nodup → as[j]? = some a → ps[j]? = some p → layT H as ps a = some (tpl p)
  | b :: as, q :: ps, 0, a, p, nd, e1, e2 => by
    cases e1; cases e2
    exact upd_same
  | b :: as, q :: ps, j + 1, a, p, nd, e1, e2 => by
    have nd' := List.nodup_cons.mp nd
    have ne : a ≠ b := fun e => nd'.1 (by rw [← e]; exact List.mem_of_getElem? e1)
    show upd (layT H as ps) b (tpl q) a = _
    rw [upd_ne ne]
    exact layT_at nd'.2 e1 e2
  | b :: as, [], j, a, p, nd, e1, e2 => by cases e2
theorem layT_some {H : Hp} {b : Addr} {o : HO} : ∀ {as : List Addr} {ps : List (Str × V)}, layT H as ps b = some o → H b = some o ∨ ∃ (j : Nat) (p : Str × V), as[j]? = some b ∧ ps[j]? = some p ∧ o = tpl p
  | [], _, e => .inl e
  | _ :: _, [], e => .inl e
  | a :: as, p :: ps, e => by
    by_cases c : b = a
    · subst c
      have e' : upd (layT H as ps) b (tpl p) b = some o := e
      rw [upd_same] at e'
      exact .inr ⟨0, p, rfl, rfl, (Option.some.inj e').symm⟩
    · have e' : upd (layT H as ps) a (tpl p) b = some o := e
      rw [upd_ne c] at e'
      rcases layT_some e' with h | ⟨j, q, h1, h2, h3⟩
      · exact .inl h
      · exact .inr ⟨j + 1, q, h1, h2, h3⟩
section
variable {X : Cx} {pins : List (Addr × Obj)} {σ : St} {H H2 : Hp} {s : Shared} {h' : Heap}
/-- several new objects are tracked at once -/
theorem Inv.grown {t' : Nat} (I : Inv X pins σ H s) (k : ∀ b u, s.heap.get? b = some u → h'.get? b = some u) (sm : Same H H2) (fr : ∀ b, b < s.heap.objs.size → H2 b = H b) (new : ∀ b o, H b = none → H2 b = some o → ObjOk X.prog X.w H2 h' b o) : Inv X pins σ H2 { s with heap := h', toks := t' } := by
  refine I.un ⟨fun b u q _ _ _ => k b u q, fun b u q _ _ _ => ⟨u.slots, k b u q⟩, fun b u q n _ => by rw [fr b (Heap.lt_size q)]; exact n, fun b u q _ => ⟨u, k b u q⟩, fun b xs q => sm _ _ q, fun b o u q => sm _ _ q, fun b ps q => ⟨#[], by rw [sm _ _ q]; simp⟩⟩ fun b o e => ?_
  cases c : H b with
  | none => exact new b o c e
  | some u =>
    have e2 := sm _ _ c
    rw [e] at e2
    cases e2
    exact (I.hok b _ c).stay (fun c v _ q => k c v q) (fun c q => sm _ _ q) fun c xs q => sm _ _ q
end
theorem katTups_of {h : Heap} : ∀ {as : List Addr} {ws : List (Value × Value)}, Paired (fun a (c : Value × Value) => h.get? a = some { cls := .type "tuple", data := .seq #[c.1, c.2] }) as ws → KatTups h (as.map Value.ref) (ws.map (·.1))
  | _, _, .nil => KatTups.nil
  | _, _, .cons e t => KatTups.cons e rfl rfl rfl (katTups_of t)
section
variable {X : Cx} {o : Expr} {to : TE} {p apos cpos pos : Pos}
def tSrtItems (to : TE) : TE := fun σ H Q => to σ H fun x H1 => ∃ (d : Addr) (ps : List (Str × V)), x = .ref d ∧ H1 d = some (.dK (ps.map fun p => (Sum.inr p.1, p.2))) ∧ ps.length < 64 ∧
  ∀ (H2 : Hp) (l : Addr) (ts : List Addr) (qs : List (Str × V)), Same H1 H2 → qs.Perm ps → qs.Pairwise (fun a b => keyL a.1 < keyL b.1) → H2 l = some (.lst (ts.map V.ref)) → Paired (fun t p => H2 t = some (.tup [.str p.1, p.2])) ts qs → H1 l = none → Q (.ref l) H2
theorem pe_srtItems (hc : X.calm = true) (hg : Gl X "sorted") (hm : X.mg "sorted" = none) (ho : PE X o to)
    (hbase : attributeBase o "items" X.env (eval o X.env) = eval o X.env := by rfl) (hline : (apos.endLine == cpos.line) = true := by rfl)
    (he : starEach [.Call (.Attribute o "items" apos) [] [] cpos] X.env = [(false, eval (.Call (.Attribute o "items" apos) [] [] cpos) X.env)] := by rfl) :
    PE X (.Call (.Name "sorted" p) [.Call (.Attribute o "items" apos) [] [] cpos] [] pos) (tSrtItems to) := by
  intro pins s σ H Q I h
  refine wpAny_Call_Name_kw (ld_blt I hg hm boot_sorted ?_)
  refine PyProof.Rows.callWith_builtin1 ?_ he rfl
  rw [he]
  show wpAny _ _ (spliced ((false, eval (.Call (.Attribute o "items" apos) [] [] cpos) X.env) :: backTo pos [])) _ _ s
  refine Calls.spliced_cons (wpAny_Call_method0_late hbase hline (thn (ho pins s σ H _ I h) fun u s1 ⟨x, H1, I1, rx, d, ps, ex, ed, h64, q⟩ => ?_))
  subst ex
  obtain rfl : u = Value.ref d := rx
  obtain ⟨hsz, hd, vs, rel, dd⟩ := dk_of I1.hok ed
  have ndK : (vs.map (·.1)).Nodup := by obtain ⟨_, _, _, _, _, _, _, _, z⟩ := dd; exact z
  obtain ⟨ep, da⟩ := dd.dictAt
  refine ⟨"dict", "dict.items", PySem.F.plainAttrs_dict, PySem.F.slot_dict_items, PySem.F.type_dict_items, dd.typeIs, fun b q => ?_, Calls.callWith_builtin rfl (PySem.evalArgs_none (call_meetsIn PySem.F.slot_dict_items dd.typeIs PySem.F.entry_dict_items (PySem.F.args_dict_items_1 _) (meets_dict_items (mixKind X.prog X.w) d hd) ⟨⟨vs, dd⟩, ?_⟩))⟩
  · cases q
    obtain ⟨ob, _, _, h1, h2, _⟩ := dd
    exact ⟨ob, h1, h2.2.1⟩
  refine Calls.spliced_nil ?_
  refine Calls.call_function_entry kind_sorted plain_sorted entry_sorted (args_sorted1 _) ?_
  unfold Builtin.«sorted»
  refine wpAny_bind (m := checkCount "sorted" 1 1 _) (wpAny_pure ?_)
  have lv : vs.length = ps.length := by rw [← paired_len rel, List.length_map]
  refine wpAny_bind (PySem.W.kdx_collect (A := X.A.in1) (knd := mixKind X.prog X.w) (kvs := vs) (ep := ep) (I1.ok.hd hc) ⟨_, Heap.get?_push_size _ rfl, rfl, rfl⟩ (da.push _) (by rw [lv, sizeLine_eq]; omega) fun h' tk as hk hl hG => ?_)
  have hl2 : as.length = ps.length := hl.trans lv
  -- what the tuples hold
  obtain ⟨ws, w1, w2⟩ : ∃ ws : List (Value × Value), Paired (fun a (c : Value × Value) => h'.get? a = some { cls := .type "tuple", data := .seq #[c.1, c.2] }) as ws ∧ Paired (fun (p : Str × V) (c : Value × Value) => (∃ t, c.1 = Value.str p.1 t) ∧ RelV p.2 c.2) ps ws := by
    refine paired_both as ps hl2 fun j a p ea ep => ?_
    obtain ⟨key, k, x, e1, e2, e3⟩ := hG.pairs j a ea
    obtain ⟨b, e4, e5, e6⟩ := paired_get rel (show (ps.map fun p => ((Sum.inr p.1 : Key), p.2))[j]? = some (Sum.inr p.1, p.2) by rw [List.getElem?_map, ep]; rfl)
    rw [e1] at e4
    cases e4
    have e5' : (Sum.inr p.1 : Key) = k := e5
    subst e5'
    obtain ⟨t, et⟩ := Value.isStrOf_shape (x := p.1) (v := key) e2
    exact ⟨(key, x), e3, ⟨t, et⟩, e6⟩
  have lR : (as.map Value.ref).length = (ps.map (·.1)).length := by rw [List.length_map, List.length_map, hl2]
  have nd : (ps.map (·.1)).Nodup := by
    have ek : vs.map (·.1) = (ps.map (·.1)).map (Sum.inr : Str → Key) := by
      rw [← KV.keys rel, List.map_map, List.map_map]
      rfl
    rw [ek] at ndK
    exact (List.pairwise_map.mp ndK).imp fun {a b} z e => z (by rw [e])
  refine wpAny_bind (wpAny_newList ?_ (by rw [List.length_map, hl2, sizeLine_eq]; omega))
  have hoL : (h'.push (seqObj "list" (as.map Value.ref).toArray 0)).get? h'.objs.size = some (seqObj "list" (as.map Value.ref).toArray 0) := Heap.get?_push_size _ rfl
  have low : ∀ a ∈ as, a < h'.objs.size := fun a m => hG.there m
  refine wpAny_bind (wpAny_holding (wpAny_call_entry slot_list_sort ⟨_, hoL, rfl⟩ entry_list_sort (list_sort_rk (rk := rkS (ps.map (·.1))) hoL (by rw [List.length_map, hl2]; exact h64) (lR ▸ rkS_inj nd) (fun _ => ?_) fun qa hq hs => ⟨_, rfl, ?_⟩) (args_list_sort _)))
  · have stay : ∀ a ∈ as, ∀ ob, h'.get? a = some ob → (midHeap (h'.push (seqObj "list" (as.map Value.ref).toArray 0)) h'.objs.size (as.map Value.ref)).get? a = some ob := fun a m ob e => by
      rw [midHeap_old (Nat.ne_of_lt (low a m)) (by rw [size_push']; exact Nat.lt_succ_of_lt (low a m))]
      exact Heap.get?_push_of_some _ e
    have w3 := paired_mem w1 fun a m c e => stay a m _ e
    refine kat_kind (fs := ws.map (·.1)) (T := Value.type "str") (katTups_of w3) (by rw [List.length_map, ← paired_len w2]; rename_i z; rw [List.length_map, hl2] at z; omega) (fun v hv => ?_) (by decide) ⟨rfl, fun i j C hi hj dn hC => ?_⟩
    · obtain ⟨c, mc, rfl⟩ := List.mem_map.mp hv
      obtain ⟨p, ⟨t, et⟩, _⟩ := paired_right w2 mc
      rw [et]
      exact Looks.of_pure rfl
    · have hi1 : i < as.length := by rw [List.length_map] at hi; exact hi
      have hj1 : j < as.length := by rw [List.length_map] at hj; exact hj
      have hi2 : i < ps.length := by omega
      have hj2 : j < ps.length := by omega
      obtain ⟨ci, eci, gi⟩ := paired_get w3 (List.getElem?_eq_getElem hi1)
      obtain ⟨cj, ecj, gj⟩ := paired_get w3 (List.getElem?_eq_getElem hj1)
      obtain ⟨c1, ec1, ⟨ti, eti⟩, _⟩ := paired_get w2 (List.getElem?_eq_getElem hi2)
      obtain ⟨c2, ec2, ⟨tj, etj⟩, _⟩ := paired_get w2 (List.getElem?_eq_getElem hj2)
      rw [eci] at ec1; cases ec1
      rw [ecj] at ec2; cases ec2
      have gd : ∀ (i : Nat) (h : i < ps.length), (ps.map (·.1)).getD i Str.empty = ps[i].1 := fun i h => by
        rw [List.getD_eq_getElem?_getD, List.getElem?_map, List.getElem?_eq_getElem h]
        rfl
      have hi3 : i < (ps.map (·.1)).length := by rw [List.length_map]; exact hi2
      have hj3 : j < (ps.map (·.1)).length := by rw [List.length_map]; exact hj2
      rw [rkS_iff nd hi3 hj3 dn, gd i hi2, gd j hj2] at hC
      have ne : ps[i].1 ≠ ps[j].1 := fun e => by
        have pw := List.pairwise_iff_getElem.mp nd
        rcases Nat.lt_trichotomy i j with c | c | c
        · exact pw i j hi3 hj3 c (by rw [List.getElem_map, List.getElem_map]; exact e)
        · exact dn c
        · exact pw j i hj3 hi3 c (by rw [List.getElem_map, List.getElem_map]; exact e.symm)
      show wpAny _ _ (keyLt' _ ((as.map Value.ref).getD i Value.none) ((as.map Value.ref).getD j Value.none)) C _ _
      rw [refs_getD (List.getElem?_eq_getElem hi1), refs_getD (List.getElem?_eq_getElem hj1)]
      refine kat_lt gi rfl gj rfl ?_
      show KatLex _ _ _ _ _ _ [(ci.1, cj.1), (ci.2, cj.2)] 0 _
      refine kat_cons ?_
      rw [eti, etj]
      refine wpAny_eqBool_str ?_
      rw [decide_eq_false ne]
      refine kat_no ?_
      show wpAny _ _ (oneLt' true _ _) _ _ _
      exact oneLt_str hC
  have lt1 : s1.heap.objs.size < h'.objs.size := Heap.lt_size (hk _ _ (Heap.get?_push_size _ rfl))
  have up : ∀ a ∈ as, s1.heap.objs.size < a := fun a m => Nat.lt_trans (Nat.lt_succ_self _) (by have := hG.above a m; rw [size_push'] at this; exact this)
  obtain ⟨ee, he2⟩ := sortedHeap_at (vs := as.map Value.ref) (out := (outOf (as.map Value.ref) qa).toArray) hoL
  have old : ∀ b ob, h'.get? b = some ob → (sortedHeap (h'.push (seqObj "list" (as.map Value.ref).toArray 0)) h'.objs.size (as.map Value.ref) (outOf (as.map Value.ref) qa).toArray).get? b = some ob := fun b ob e => by
    have lb := Heap.lt_size e
    rw [sortedHeap_old (Nat.ne_of_lt lb) (by rw [size_push']; exact Nat.lt_succ_of_lt lb)]
    exact Heap.get?_push_of_some _ e
  have mem : ∀ i ∈ qa.toList, i < as.length := fun i m => by
    have := List.mem_range.mp (hq.mem_iff.mp m)
    rw [List.length_map] at this
    exact this
  have asnd : as.Nodup := hG.rise.imp fun {a b} z e => by rw [e] at z; exact Nat.lt_irrefl _ z
  generalize hts : (qa.toList.map fun i => as.getD i 0) = ts
  have hfr : ∀ b, b < s1.heap.objs.size → upd (layT H1 as ps) h'.objs.size (.lst (ts.map V.ref)) b = H1 b := fun b lb => by
    rw [upd_ne (Nat.ne_of_lt (Nat.lt_trans lb lt1)), layT_not as ps fun m => Nat.lt_asymm lb (up b m)]
  have sm : Same H1 (upd (layT H1 as ps) h'.objs.size (.lst (ts.map V.ref))) := fun b ob e => by rw [hfr b (I1.hok.lt e)]; exact e
  have atT : ∀ (j : Nat) (h1 : j < as.length) (h2 : j < ps.length), upd (layT H1 as ps) h'.objs.size (.lst (ts.map V.ref)) as[j] = some (tpl ps[j]) := fun j h1 h2 => by
    rw [upd_ne (Nat.ne_of_lt (low _ (List.getElem_mem h1)))]
    exact layT_at asnd (List.getElem?_eq_getElem h1) (List.getElem?_eq_getElem h2)
  refine wpAny_pure ⟨_, rfl, .ref h'.objs.size, _, I1.grown (t' := tk) (fun b u e => old b u (hk b u (Heap.get?_push_of_some _ e))) sm hfr (fun b ob hn e => ?_), rfl, q _ _ ts (qa.toList.map fun i => ps.getD i (Str.empty, V.non)) sm ?_ ?_ upd_same ?_ (I1.hok.fresh (Nat.le_of_lt lt1))⟩
  · by_cases c : b = h'.objs.size
    · subst c
      rw [upd_same] at e
      cases e
      refine ⟨?_, outOf (as.map Value.ref) qa, ee, ?_, he2⟩
      · rw [List.length_map, ← hts, List.length_map, Array.length_toList, hq.size, List.length_map, hl2, sizeLine_eq]
        omega
      · rw [← hts, List.map_map]
        refine paired_map2 _ fun i m => ?_
        show (as.map Value.ref).getD i Value.none = Value.ref (as.getD i 0)
        rw [refs_getD (List.getElem?_eq_getElem (mem i m)), List.getD_eq_getElem?_getD, List.getElem?_eq_getElem (mem i m)]
        rfl
    · rw [upd_ne c] at e
      rcases layT_some e with z | ⟨j, p, e1, e2, rfl⟩
      · rw [hn] at z; cases z
      · obtain ⟨cc, e3, g⟩ := paired_get w1 e1
        obtain ⟨c2, e4, ⟨t, et⟩, r⟩ := paired_get w2 e2
        rw [e3] at e4; cases e4
        exact ⟨by show 2 ≤ _; rw [sizeLine_eq]; omega, [cc.1, cc.2], .cons ⟨t, et⟩ (.cons r .nil), _, old b _ g, rfl, _, rfl⟩
  · have e : (List.range (as.map Value.ref).length).map (fun i => ps.getD i (Str.empty, V.non)) = ps := by
      apply List.ext_getElem
      · simp [hl2]
      · intro i h1 h2
        simp [h2]
    exact (hq.map _).trans (by rw [e])
  · refine List.pairwise_iff_getElem.mpr fun i j h1 h2 hij => ?_
    have n1 : i < (as.map Value.ref).length := by rw [List.length_map, Array.length_toList, hq.size] at h1; exact h1
    have n2 : j < (as.map Value.ref).length := by rw [List.length_map, Array.length_toList, hq.size] at h2; exact h2
    have le := hs i j (Nat.le_of_lt hij) n2
    have inj : RkInj (as.map Value.ref).length (rkS (ps.map (·.1))) := lR ▸ rkS_inj nd
    have ne : gk (rkS (ps.map (·.1))) qa i ≠ gk (rkS (ps.map (·.1))) qa j := fun e => Nat.ne_of_lt hij (hq.ne inj n1 n2 e)
    have lt : rkS (ps.map (·.1)) (qa.getD i 0) < rkS (ps.map (·.1)) (qa.getD j 0) := Nat.lt_of_le_of_ne le ne
    have m1 : qa.getD i 0 < (ps.map (·.1)).length := by rw [← lR]; exact hq.lt n1
    have m2 : qa.getD j 0 < (ps.map (·.1)).length := by rw [← lR]; exact hq.lt n2
    have lt2 := rkS_iff nd m1 m2 (hq.dif n1 n2 (Nat.ne_of_lt hij))
    rw [decide_eq_true lt] at lt2
    have lt3 := of_decide_eq_true lt2.symm
    have gd : ∀ (k : Nat), (ps.map (·.1)).getD k Str.empty = (ps.getD k (Str.empty, V.non)).1 := fun k => by
      rw [List.getD_eq_getElem?_getD, List.getD_eq_getElem?_getD, List.getElem?_map]
      cases ps[k]? <;> rfl
    rw [gd, gd] at lt3
    have z1 : i < qa.size := by rw [hq.size]; exact n1
    have z2 : j < qa.size := by rw [hq.size]; exact n2
    rw [List.getElem_map, List.getElem_map, Array.getElem_toList, Array.getElem_toList, ← getD_get z1, ← getD_get z2]
    exact lt3
  · rw [← hts]
    refine paired_map2 _ fun i m => ?_
    have a1 := mem i m
    have a2 : i < ps.length := by omega
    have := atT i a1 a2
    rw [hts]
    rw [List.getD_eq_getElem?_getD, List.getElem?_eq_getElem a1, List.getD_eq_getElem?_getD, List.getElem?_eq_getElem a2]
    exact this
end
end L2

/-! ## sorted of a list of numbers, of a list of texts -/
namespace L2
open PySem PySem.Spec PyProof.Rows
theorem ints_to : ∀ {ys : List Int} {its : List Value}, Vals (ys.map V.int) its → IntsAre its ys
  | [], _, .nil => .nil
  | _ :: _, _, .cons ⟨t, e⟩ r => by subst e; exact .cons _ _ (ints_to r)
theorem ints_back : ∀ {its : List Value} {ys : List Int}, IntsAre its ys → Vals (ys.map V.int) its
  | _, _, .nil => .nil
  | _, _, .cons _ _ r => .cons ⟨_, rfl⟩ (ints_back r)
theorem strs_back : ∀ {its : List Value} {ys : List Str}, StrsAre its ys → Vals (ys.map V.str) its
  | _, _, .nil => .nil
  | _, _, .cons _ _ r => .cons ⟨_, rfl⟩ (strs_back r)
theorem risingS_pw : ∀ (l : List Str) (p : Str), risingS p l = true → (p :: l).Pairwise fun a b => ¬ keyL b < keyL a
  | [], p, _ => List.pairwise_singleton _ _
  | x :: l, p, h => by
    have h' : (!ltCps x.cps.toList p.cps.toList && risingS x l) = true := h
    rw [Bool.and_eq_true] at h'
    have a : ¬ keyL x < keyL p := by
      have z := h'.1
      rw [ltCps_eq, Bool.not_eq_true', decide_eq_false_iff_not] at z
      exact z
    have r := risingS_pw l x h'.2
    refine List.pairwise_cons.mpr ⟨fun y m => ?_, r⟩
    rcases List.mem_cons.mp m with rfl | m
    · exact a
    · have b := (List.pairwise_cons.mp r).1 y m
      exact List.not_lt.mpr (List.le_trans (List.not_lt.mp a) (List.not_lt.mp b))
theorem sortedS_pw {l : List Str} (h : sortedS l = true) : l.Pairwise fun a b => ¬ keyL b < keyL a := by
  cases l with
  | nil => exact .nil
  | cons p l => exact risingS_pw l p h
section
variable {X : Cx}
theorem call_sortedI : CallR X (.builtin "sorted") (fun xs H Q => ∃ (p : Addr) (ns : List Int), xs = [.ref p] ∧ SqL X.K H p (ns.map V.int) ∧ ns.length < 64 ∧ ∀ (l : Addr) (ms : List Int), H l = none → ms.Perm ns → ms.Pairwise (· ≤ ·) → Q (.ref l) (upd H l (.lst (ms.map V.int)))) := by
  intro pins s σ H xs us Q I r h
  obtain ⟨p, ns, rfl, hq, h64, q⟩ := h
  obtain ⟨u, rfl, rx⟩ := vals1 r
  cases rx
  obtain ⟨its, r', pl, hz⟩ := I.list hq
  have hI := ints_to r'
  have hlen : its.length = ns.length := by rw [← r'.length, List.length_map]
  refine sorted_ints pl.isList hI (by omega) fun out ms a1 a2 a3 => ?_
  obtain ⟨e, he⟩ := sortedAll_at s.heap its out
  refine ⟨.ref (s.heap.objs.size + 1), _, I.laid (t' := s.toks) (fun b o e => sortedAll_old e) (Nat.le_succ _) (show ObjOk X.prog X.w _ _ _ (.lst (ms.map V.int)) from ⟨?_, out.toList, e, ints_back a1, he⟩), rfl, q _ ms (I.hok.fresh (Nat.le_succ _)) a2 a3⟩
  rw [List.length_map, a2.length_eq, sizeLine_eq]
  omega
theorem call_sortedS : CallR X (.builtin "sorted") (fun xs H Q => ∃ (p : Addr) (ns : List Str), xs = [.ref p] ∧ SqL X.K H p (ns.map V.str) ∧ ns.length < 64 ∧ ∀ (l : Addr) (ms : List Str), H l = none → ms.Perm ns → ms.Pairwise (fun a b => ¬ keyL b < keyL a) → Q (.ref l) (upd H l (.lst (ms.map V.str)))) := by
  intro pins s σ H xs us Q I r h
  obtain ⟨p, ns, rfl, hq, h64, q⟩ := h
  obtain ⟨u, rfl, rx⟩ := vals1 r
  cases rx
  obtain ⟨its, r', pl, hz⟩ := I.list hq
  have hI := strs_of r'
  have hlen : its.length = ns.length := by rw [← r'.length, List.length_map]
  refine sorted_strs pl.isList hI (by omega) fun out ms a1 a2 a3 => ?_
  obtain ⟨e, he⟩ := sortedAll_at s.heap its out
  refine ⟨.ref (s.heap.objs.size + 1), _, I.laid (t' := s.toks) (fun b o e => sortedAll_old e) (Nat.le_succ _) (show ObjOk X.prog X.w _ _ _ (.lst (ms.map V.str)) from ⟨?_, out.toList, e, strs_back a1, he⟩), rfl, q _ ms (I.hok.fresh (Nat.le_succ _)) a2 (sortedS_pw a3)⟩
  rw [List.length_map, a2.length_eq, sizeLine_eq]
  omega
end
/-- a comprehension with a test, over a list of known things, whose values are made anew -/
theorem comp_invF {K : PySem.W.Frag} {α : Type} {a : Addr} {ps : List α} {r : α → V} {k : Nat} {g : TG} {tf : TT} {te : TE} {σ : St} {H : Hp} {Q : VK} (J : Nat → List V → Hp → Prop) (j0 : J 0 [] H) (hq : ∀ i ys H', J i ys H' → SqL K H' a (ps.map r)) (hn : ∀ i ys H', J i ys H' → ys.length ≤ i) (hl : ps.length ≤ sizeLine)
    (hs : ∀ i x ys H', ps[i]? = some x → J i ys H' → g (r x) (List.replicate k none ++ σ) H' fun σ4 H4 => σ4.drop k = σ ∧ tf σ4 H4 fun b H5 => if b = true then te σ4 H5 fun y H6 => J (i + 1) (ys ++ [y]) H6 else J (i + 1) ys H5)
    (hd : ∀ ys H', J ps.length ys H' → NewL Q ys H') :
    ∃ W : Nat → Nat → List V → Hp → Prop, (∃ m, W 0 m [] H) ∧ ∀ i m ys H2, W i m ys H2 →
      ((Itl K a).stop i H2 ∧ NewL Q ys H2) ∨
      ((Itl K a).go i H2 ∧ ys.length < sizeLine ∧ ∀ x H3, (Itl K a).yld i H2 x H3 → g x (List.replicate k none ++ σ) H3 fun σ4 H4 => σ4.drop k = σ ∧ tf σ4 H4 fun b H5 =>
        if b = true then te σ4 H5 fun y H6 => ∃ m', m' < m ∧ W (i + 1) m' (ys ++ [y]) H6 else ∃ m', m' < m ∧ W (i + 1) m' ys H5) := by
  refine ⟨fun i m ys H2 => m = ps.length - i ∧ i ≤ ps.length ∧ J i ys H2, ⟨ps.length, by simp, Nat.zero_le _, j0⟩, ?_⟩
  rintro i m ys H2 ⟨rfl, hi, jj⟩
  have q2 : SqL K H2 a (ps.map r) := hq i ys H2 jj
  by_cases hlt : i < ps.length
  · refine .inr ⟨⟨ps.map r, r ps[i], q2, by simp [hlt]⟩, ?_, fun x H3 y => ?_⟩
    · have := hn i ys H2 jj
      omega
    · obtain ⟨e, y⟩ := y
      subst e
      have ex : (ps.map r)[i]? = some x := y _ q2
      have ei : ps[i]? = some ps[i] := by simp [hlt]
      have exr : x = r ps[i] := by rw [List.getElem?_map, ei] at ex; exact (Option.some.inj ex).symm
      subst exr
      have h := hs i ps[i] ys _ ei jj
      have key : ∀ zs H6, J (i + 1) zs H6 = ∃ m', m' < ps.length - i ∧ m' = ps.length - (i + 1) ∧ i + 1 ≤ ps.length ∧ J (i + 1) zs H6 := fun zs H6 => propext ⟨fun z => ⟨ps.length - (i + 1), by omega, rfl, hlt, z⟩, fun ⟨_, _, _, _, z⟩ => z⟩
      have fe : (fun (b : Bool) (H5 : Hp) (σ4 : St) => if b = true then te σ4 H5 (fun y H6 => J (i + 1) (ys ++ [y]) H6) else J (i + 1) ys H5) = fun b H5 σ4 => if b = true then te σ4 H5 (fun y H6 => ∃ m', m' < ps.length - i ∧ m' = ps.length - (i + 1) ∧ i + 1 ≤ ps.length ∧ J (i + 1) (ys ++ [y]) H6) else ∃ m', m' < ps.length - i ∧ m' = ps.length - (i + 1) ∧ i + 1 ≤ ps.length ∧ J (i + 1) ys H5 := by
        funext b H5 σ4
        rw [← key ys H5]
        congr 2
        funext y H6
        exact key _ _
      have fe' : ∀ b H5 σ4, (if b = true then te σ4 H5 (fun y H6 => J (i + 1) (ys ++ [y]) H6) else J (i + 1) ys H5) = if b = true then te σ4 H5 (fun y H6 => ∃ m', m' < ps.length - i ∧ m' = ps.length - (i + 1) ∧ i + 1 ≤ ps.length ∧ J (i + 1) (ys ++ [y]) H6) else ∃ m', m' < ps.length - i ∧ m' = ps.length - (i + 1) ∧ i + 1 ≤ ps.length ∧ J (i + 1) ys H5 := fun b H5 σ4 => congrFun (congrFun (congrFun fe b) H5) σ4
      simp only [fe'] at h
      exact h
  · have e : i = ps.length := by omega
    subst e
    exact .inl ⟨⟨ps.map r, q2, by simp⟩, hd ys H2 jj⟩
/-- two lists in strict order with the same members are one -/
theorem strict_same {α : Type} {f : α → List Nat} : ∀ (l m : List α), l.Pairwise (fun a b => f a < f b) → m.Pairwise (fun a b => f a < f b) → (∀ x, x ∈ l ↔ x ∈ m) → l = m
  | [], [], _, _, _ => rfl
  | [], y :: m, _, _, h => absurd ((h y).mpr List.mem_cons_self) (by simp)
  | x :: l, [], _, _, h => absurd ((h x).mp List.mem_cons_self) (by simp)
  | x :: l, y :: m, p, q, h => by
    have p' := List.pairwise_cons.mp p
    have q' := List.pairwise_cons.mp q
    have e : x = y := by
      rcases List.mem_cons.mp ((h x).mp List.mem_cons_self) with e | a
      · exact e
      · rcases List.mem_cons.mp ((h y).mpr List.mem_cons_self) with e | b
        · exact e.symm
        · exact absurd (List.lt_trans (q'.1 x a) (p'.1 y b)) (List.lt_irrefl _)
    subst e
    refine congrArg (x :: ·) (strict_same l m p'.2 q'.2 fun z => ⟨fun a => ?_, fun a => ?_⟩)
    · rcases List.mem_cons.mp ((h z).mp (List.mem_cons_of_mem _ a)) with e | b
      · subst e; exact absurd (p'.1 z a) (List.lt_irrefl _)
      · exact b
    · rcases List.mem_cons.mp ((h z).mpr (List.mem_cons_of_mem _ a)) with e | b
      · subst e; exact absurd (q'.1 z a) (List.lt_irrefl _)
      · exact b
section
variable {X : Cx}
/-- two tuples of one length, by their items, over several levels -/
def rEqTD (K : PySem.W.Frag) : R2 := fun x y H Q => ∃ a b xs ys, x = .ref a ∧ y = .ref b ∧ SqT K H a xs ∧ SqT K H b ys ∧ xs.length = ys.length ∧ ∃ e : Nat → Bool, (∀ j, j < xs.length → EqH K H 60 (xs.getD j .non) (ys.getD j .non) (e j)) ∧ Q (.bl ((List.range xs.length).all e)) H
theorem op_eqTD (hu : X.A.units + 64 < cLine) : OpR X (compareOp .Eq) (rEqTD X.K) := by
  intro pins s σ H x y v u Q I rx ry h
  obtain ⟨a, b, xs, ys, rfl, rfl, ha, hb, hl, e, he, q⟩ := h
  cases rx
  cases ry
  obtain ⟨us, r, pl, _⟩ := I.tuple ha
  obtain ⟨ws, r', pl', _⟩ := I.tuple hb
  have hz : us.toArray.size = ws.toArray.size := by simp only [List.size_toArray]; rw [← r.length, ← r'.length, hl]
  have e1 : xs.length = us.toArray.size := by rw [List.size_toArray, ← r.length]
  refine SeqAt.eq_tupleAt (e := e) pl pl' (by omega) (fun j h1 h2 => eqH_at I (he j (by rw [e1]; exact h1)) (vals_at r h1) (vals_at r' h2) (by rw [in1_units]; omega)) ⟨.bl ((List.range xs.length).all e), H, I, ?_, q⟩
  show Value.bool _ = Value.bool _
  rw [← hz, Nat.min_self, beq_self_eq_true, Bool.and_true, e1]
end
end L2

namespace HT
open PySem PyProof.Rows
/-- t < u of tuples of texts -/
def lexLtS : List Str → List Str → Bool
  | [], [] => false
  | [], _ :: _ => true
  | _ :: _, [] => false
  | x :: xs, y :: ys => if x = y then lexLtS xs ys else decide (x.cps.toList < y.cps.toList)
theorem lexLtS_cons (x y : Str) (xs ys : List Str) : lexLtS (x :: xs) (y :: ys) = if x = y then lexLtS xs ys else decide (x.cps.toList < y.cps.toList) := rfl
theorem lexLtS_nil_nil : lexLtS [] [] = false := rfl
theorem lexLtS_nil_cons (y : Str) (ys : List Str) : lexLtS [] (y :: ys) = true := rfl
theorem lexLtS_cons_nil (x : Str) (xs : List Str) : lexLtS (x :: xs) [] = false := rfl
theorem eqAt_str (A : Around) (s : Shared) (a : Str) (t : Tok) (c : Str) (u : Tok) : ∃ e, SeqAt.EqAt A s (.str a t) (.str c u) e ∧ (e = true ↔ a = c) :=
  ⟨(a == c), SeqAt.EqAt.str_str a t c u, by simp⟩
theorem rcLt_str (A : Around) (s : Shared) (a : Str) (t : Tok) (c : Str) (u : Tok) (prog : Program) (w : World) (E : Value → Shared → Prop) (Q : Value → Shared → Prop) (h : Q (.bool (decide (a.cps.toList < c.cps.toList))) s) :
    wpAny (model prog w) A (richCompare .Lt (.str a t) (.str c u)) Q E s :=
  (P.lt_str h : wpAny (model prog w) A (compareOp .Lt (.str a t) (.str c u)) Q E s)
section
open PySem.SeqAt
open PySem.AutoSeq1 (wpAny_loadPart')
open PySem.MeetsSeq PySem.MeetsSeq2 PySem.MeetsSeq3
theorem tuple_lt_strs (l b : Addr) (items items2 : Array Value) (n n2 : Nat) (dd dd2 : Option Addr) (sl sl2 : Array (Option Value)) (ns ms : List Str) (hi : StrsAre items.toList ns) (hj : StrsAre items2.toList ms) :
    Meets (Builtin.«tuple.__lt__» ⟨[.ref l, .ref b], []⟩)
      (fun _ R s => s.heap.get? l = some { cls := .type "tuple", dict := dd, data := .seq items n, slots := sl } ∧ s.heap.get? b = some { cls := .type "tuple", dict := dd2, data := .seq items2 n2, slots := sl2 } ∧
        R (.ok (.ret (.bool (lexLtS ns ms)))) s) :=
  .of_wp fun prog w A R s h => by
    obtain ⟨hp, g, d, tk, os⟩ := s; obtain ⟨hl, hb, h⟩ := h
    have f2 := AutoSeq1.sub_tuple_tuple
    have z1 : items.size = ns.length := by rw [← hi.length]; simp
    have z2 : items2.size = ms.length := by rw [← hj.length]; simp
    wp_walk using wpAny_loadPart' hl, wpAny_loadPart' hb, wpAny_forIn_list _ (fun rest b s' => b.1 = none ∧ s' = ⟨hp, g, d, tk, os⟩ ∧ ∃ (vs ws : List Value) (ns' ms' : List Str), rest = vs.zip ws ∧
      StrsAre vs ns' ∧ StrsAre ws ms' ∧ ns'.length + items2.size = ms'.length + items.size ∧ R (.ok (.ret (.bool (lexLtS ns' ms')))) ⟨hp, g, d, tk, os⟩) _
    case turn =>
      rintro ⟨y, x⟩ rest b s' ⟨hb', rfl, vs, ws, ns', ms', hz, hvi, hwi, hlen, hR⟩
      cases hvi with
      | nil => rw [List.zip_nil_left] at hz; cases hz
      | cons a t hvi' =>
        cases hwi with
        | nil => rw [List.zip_nil_right] at hz; cases hz
        | cons c u hwi' =>
          rw [List.zip_cons_cons] at hz
          injection hz with hyx hrest
          injection hyx with hy hx
          subst hy hx
          rw [lexLtS_cons] at hR
          simp only [List.length_cons] at hlen
          obtain ⟨e, he, hiff⟩ := eqAt_str A.in1 ⟨hp, g, d, tk, os⟩ a t c u
          refine wpAny_bind (he prog w _ _ ?_)
          cases e with
          | true =>
            rw [if_pos (hiff.mp rfl)] at hR
            wp_walk
            exact ⟨rfl, rfl, _, _, _, _, hrest, hvi', hwi', by omega, hR⟩
          | false =>
            rw [if_neg (fun q => absurd (hiff.mpr q) Bool.false_ne_true)] at hR
            have hri := rcLt_str A.in1 ⟨hp, g, d, tk, os⟩ a t c u prog w
            wp_walk using hri
            exact ⟨_, rfl, by simpa using hR⟩
    case fin =>
      rintro ⟨b1, b2⟩ s' ⟨hb', rfl, vs, ws, ns', ms', hz, hvi, hwi, hlen, hR⟩
      simp only at hb'
      subst hb'
      have hv : lexLtS ns' ms' = decide (items.size < items2.size) := by
        cases hvi with
        | nil =>
          cases hwi with
          | nil =>
            simp only [List.length_nil] at hlen
            rw [lexLtS_nil_nil]
            exact (decide_eq_false (by omega)).symm
          | cons c u hw =>
            simp only [List.length_nil, List.length_cons] at hlen
            rw [lexLtS_nil_cons]
            exact (decide_eq_true (by omega)).symm
        | cons a t hv =>
          cases hwi with
          | nil =>
            simp only [List.length_nil, List.length_cons] at hlen
            rw [lexLtS_cons_nil]
            exact (decide_eq_false (by omega)).symm
          | cons c u hw =>
            rw [List.zip_cons_cons] at hz
            cases hz
      rw [hv] at hR
      wp_walk
      exact ⟨_, rfl, by simpa [Builtin.Tuple.tupleCompareSizes] using hR⟩
    case h =>
      exact ⟨rfl, rfl, items.toList, items2.toList, ns, ms, rfl, hi, hj, by omega, h⟩
end
section
variable {prog : Program} {w : World} {A : Around} {E : Value → Shared → Prop} {s : Shared}
theorem lt_tupStrs {l b : Addr} {items items2 : Array Value} {ns ms : List Str} {Q : Value → Shared → Prop} (hl : IsTup s.heap l items) (hb : IsTup s.heap b items2) (hi : StrsAre items.toList ns) (hj : StrsAre items2.toList ms)
    (hu : A.units < cLine) (h : Q (.bool (lexLtS ns ms)) s) : wpAny (model prog w) A (compareOp .Lt (.ref l) (.ref b)) Q E s := by
  obtain ⟨⟨cls, dd, data, sl⟩, ho, hc, n, hd⟩ := id hl
  obtain ⟨⟨cls2, dd2, data2, sl2⟩, ho2, hc2, n2, hd2⟩ := id hb
  simp only at hc hd hc2 hd2
  subst hc hd hc2 hd2
  exact richCompare_meets_room (op := .Lt) ⟨_, ho, rfl⟩ ⟨_, ho2, rfl⟩ PySem.F.slot_tuple_lt PySem.F.entry_tuple_lt (PySem.F.args_tuple_lt_2 _ _) (tuple_lt_strs l b items items2 n n2 dd dd2 sl sl2 ns ms hi hj)
    ⟨ho, ho2, show Value.bool (lexLtS ns ms) ≠ Value.notImplemented ∧ Q (.bool (lexLtS ns ms)) s from ⟨(fun x => nomatch x), h⟩⟩ hu


end
end HT
namespace L2
open PySem PySem.Spec PySem.Calls PyProof.Rows
section
variable {X : Cx}
def rLtTS (K : PySem.W.Frag) : R2 := fun x y H Q => ∃ a b ns ms, x = .ref a ∧ y = .ref b ∧ SqT K H a (ns.map V.str) ∧ SqT K H b (ms.map V.str) ∧ Q (.bl (HT.lexLtS ns ms)) H
theorem op_ltTS (hu : X.A.units < cLine) : OpR X (compareOp .Lt) (rLtTS X.K) := by
  intro pins s σ H x y v u Q I rx ry h
  obtain ⟨a, b, ns, ms, rfl, rfl, ha, hb, q⟩ := h
  cases rx
  cases ry
  obtain ⟨its, r1, p1, _⟩ := I.tuple ha
  obtain ⟨its2, r2, p2, _⟩ := I.tuple hb
  have i1 : StrsAre its.toArray.toList ns := strs_of r1
  have i2 : StrsAre its2.toArray.toList ms := strs_of r2
  exact HT.lt_tupStrs p1 p2 i1 i2 hu ⟨.bl (HT.lexLtS ns ms), H, I, rfl, q⟩

end
end L2

namespace L2
open PySem PySem.Spec PySem.Calls PyProof.Rows
section
variable {X : Cx}
theorem sl_tupK {K : PySem.W.Frag} (h : X.K = K) : SlR X (rSlT K) := h ▸ sl_tup
theorem op_eqTK {K : PySem.W.Frag} (h : X.K = K) (hu : X.A.units < cLine) : OpR X (compareOp .Eq) (rEqT K) := h ▸ op_eqT hu
end
end L2

/-! ## numbers of a script: no more bits than a script may weigh -/
namespace L2
open PySem PySem.Spec PySem.W PyProof.Rows
def Bts (i : Int) : Prop := Builtin.Int.intBits i ≤ 1048576
section
variable {X : Cx}
def CMulW (i j : Int) : Prop := CMul i j ∨ (Bts i ∧ Bts j)
theorem CMulW.ok {i j : Int} (h : CMulW i j) : IntMulOk i j := by
  rcases h with h | ⟨h1, h2⟩
  · exact h.ok
  · exact mulOk_of_bits (m := 1048576) (n := 1048576) h1 h2 (by decide)
theorem op_mulW : OpR X (binaryOp .Mult) (rI CMulW fun i j => .int (i * j)) := opI fun _ _ _ _ _ _ _ hc q => mul_int q hc.ok
end
theorem bts_of {ns : List Int} (h : WData.layableAll [.list (ns.map WData.int)] = true) : ∀ n ∈ ns, Bts n := fun n hn => by
  have h1 := layableW_arg h _ List.mem_cons_self
  have h2 := layableW_item h1 (.int n) (List.mem_map_of_mem hn)
  exact (layableW_iff.mp h2).2.2
end L2
namespace L2
open PySem PySem.W PySem.Calls PyProof.Rows
theorem attach_callL {l : OpenLaw} {n : Nat} {q : Program} {loose : List Str} {XP : (Str → Option Value) → Heap → Prop} {YP : World → Heap → Prop} {d : DefRec}
    (hn : l.most = some n) (hdf : d.params.defaults = [])
    (call : ∀ (w : World) (s₀ s₁ : Shared) (mg mb : Str → Option Value) (fa : Addr) (o : Obj) (pm cd doc : Value) (a : Addr) (vs : List Value) (ns : List Int),
      Ground q loose [] XP w s₀ mg mb s₁.heap → YP w s₁.heap →
      s₁.heap.get? fa = some o → o.data = .func (docDef d.name d.params d.body d.scope pm cd doc) → s₁.heap.CodeRec cd d.name → mg d.name = some (.ref fa) →
      s₁.heap.get? a = some { cls := .type "list", data := .seq vs.toArray } → IntsAre vs ns → ns.length ≤ n → (∀ n ∈ ns, Bts n) → s₁.gens = #[] →
      codeAny (model l.prog w) callerA (.call (.ref fa) ⟨[.ref a], []⟩) (fun r s' => r = .ok (.ret (.bool true)) ∧ OldK s₁.heap s'.heap ∧ s'.os = s₁.os ∧ AllBare s'.gens) s₁) :
    WalkO q loose XP YP l.row.toRowW d [] (fun f vs => PySem.call f vs) := by
  intro w s₀ s₁ mg mb G Y fa o pm cd doc dV kV ho hd hcd hD hmg hg args vals as hpre hlay hrd hwl hlo
  obtain rfl : dV = .none := Dflts.none hD hdf
  obtain rfl : kV = .none := Dflts.noKw hD
  obtain ⟨a, vs, ns, rfl, rfl, hobj, hints, hlen⟩ := Att.script_of hn hpre hwl
  have hb2 : ∀ n ∈ ns, Bts n := bts_of hlay
  refine enter_call (codeAny_mono (call w s₀ s₁ mg mb fa o pm cd doc a vs ns G Y ho (fd_plain hd) hcd hmg hobj hints hlen hb2 hg) fun r s' hq => ?_)
  obtain ⟨rfl, h2, h3, h4⟩ := hq
  exact ⟨.inl ⟨.bool true, .bool true, [], rfl, fun _ => rfl, .bool true, Att.post_true l _, fun _ => ⟨List.Pairwise.nil, fun _ hm => (nomatch hm)⟩⟩, h2, h3, h4⟩
end L2
namespace L2
open PySem PySem.Spec PyProof.Rows
theorem walk_ofL {l : PySem.W.OpenLaw} {n k : Nat} {q : Program} {loose : List Str} {XP : (Str → Option Value) → Heap → Prop} {YP : World → Heap → Prop} {d : DefRec} {K : Params → PySem.W.Frag} {CX : World → CXT} {sp : World → Sp} {x : Str}
    (hn : l.most = some n) (hn2 : n ≤ sizeLine) (hdf : d.params.defaults = []) (hr : Room k callerA)
    (hY : ∀ (w : World) (h : Heap), YP w h → (K w.params).In h)
    (F : ∀ (w : World) (mg : Str → Option Value) (fa : Addr) (h : Heap), (K w.params).In h → h.Ns mainGlobals mg → mg d.name = some (.ref fa) →
      ∃ fd : FuncData, (∀ (s : Shared) (u : Value), BindsTo s fd ⟨[u], []⟩ [(x, u)]) ∧
        ∀ base : Heap, (K w.params).In base → base.Ns mainGlobals mg → FnOk l.prog w (K w.params) mg base (CX w) k fa fd [x] (sp w))
    (hsp : ∀ (w : World) (H : Hp) (a : Addr) (ns : List Int), ns.length ≤ n → (∀ n ∈ ns, Bts n) → SqL (K w.params) H a (ns.map V.int) → sp w [.ref a] H (fun v _ => v = .bl true) fun _ _ _ => False)
    (hCX : ∀ (w : World) (H : Hp) (s : Shared) (e : Value) (s' : Shared), CX w [] H s (fun _ _ _ => False) e s' → False) :
    PySem.W.WalkO q loose XP YP l.row.toRowW d [] (fun f vs => PySem.call f vs) := by
  refine attach_callL hn hdf fun w s₀ s₁ mg mb fa o pm cd doc a vs ns G Y ho hd hcd hmg hobj hints hlen hbt hg => ?_
  have KX := hY w _ Y
  obtain ⟨fd, hb, hF⟩ := F w mg fa _ KX G.T.g hmg
  exact law_call KX G.T.g G.T.b G.T.builtins G.T.nolimit hg hobj hints (Nat.le_trans hlen hn2) hr hF hb (fun H hO hS => hsp w H a ns hlen hbt hS) fun H e s' => hCX w H s₁ e s'
/-- L2DealF's comp_valF, here for laws that do not reach that file -/
theorem comp_valJ {n : Nat} {val : Nat → V} {k : Nat} {g : TG} {tf : TT} {te : TE} {σ : St} {H : Hp} {Q : VK} (J : Nat → List V → Hp → Prop) (j0 : J 0 [] H) (hn : ∀ i ys H', J i ys H' → ys.length ≤ i) (hl : n ≤ sizeLine)
    (hs : ∀ i ys H', i < n → J i ys H' → g (val i) (List.replicate k none ++ σ) H' fun σ4 H4 => σ4.drop k = σ ∧ tf σ4 H4 fun b H5 => if b = true then te σ4 H5 fun y H6 => J (i + 1) (ys ++ [y]) H6 else J (i + 1) ys H5)
    (hd : ∀ ys H', J n ys H' → NewL Q ys H') :
    ∃ W : Nat → Nat → List V → Hp → Prop, (∃ m, W 0 m [] H) ∧ ∀ i m ys H2, W i m ys H2 →
      ((Itv n val).stop i H2 ∧ NewL Q ys H2) ∨
      ((Itv n val).go i H2 ∧ ys.length < sizeLine ∧ ∀ x H3, (Itv n val).yld i H2 x H3 → g x (List.replicate k none ++ σ) H3 fun σ4 H4 => σ4.drop k = σ ∧ tf σ4 H4 fun b H5 =>
        if b = true then te σ4 H5 fun y H6 => ∃ m', m' < m ∧ W (i + 1) m' (ys ++ [y]) H6 else ∃ m', m' < m ∧ W (i + 1) m' ys H5) := by
  refine ⟨fun i m ys H2 => m = n - i ∧ i ≤ n ∧ J i ys H2, ⟨n, by simp, Nat.zero_le _, j0⟩, ?_⟩
  rintro i m ys H2 ⟨rfl, hi, jj⟩
  by_cases hlt : i < n
  · refine .inr ⟨hlt, ?_, fun x H3 y => ?_⟩
    · have := hn i ys H2 jj
      omega
    · obtain ⟨e, y⟩ := y
      subst e y
      have h := hs i ys _ hlt jj
      have key : ∀ zs H6, J (i + 1) zs H6 = ∃ m', m' < n - i ∧ m' = n - (i + 1) ∧ i + 1 ≤ n ∧ J (i + 1) zs H6 := fun zs H6 => propext ⟨fun z => ⟨n - (i + 1), by omega, rfl, hlt, z⟩, fun ⟨_, _, _, _, z⟩ => z⟩
      have fe : (fun (b : Bool) (H5 : Hp) (σ4 : St) => if b = true then te σ4 H5 (fun y H6 => J (i + 1) (ys ++ [y]) H6) else J (i + 1) ys H5) = fun b H5 σ4 => if b = true then te σ4 H5 (fun y H6 => ∃ m', m' < n - i ∧ m' = n - (i + 1) ∧ i + 1 ≤ n ∧ J (i + 1) (ys ++ [y]) H6) else ∃ m', m' < n - i ∧ m' = n - (i + 1) ∧ i + 1 ≤ n ∧ J (i + 1) ys H5 := by
        funext b H5 σ4
        rw [← key ys H5]
        congr 2
        funext y H6
        exact key _ _
      have fe' : ∀ b H5 σ4, (if b = true then te σ4 H5 (fun y H6 => J (i + 1) (ys ++ [y]) H6) else J (i + 1) ys H5) = if b = true then te σ4 H5 (fun y H6 => ∃ m', m' < n - i ∧ m' = n - (i + 1) ∧ i + 1 ≤ n ∧ J (i + 1) (ys ++ [y]) H6) else ∃ m', m' < n - i ∧ m' = n - (i + 1) ∧ i + 1 ≤ n ∧ J (i + 1) ys H5 := fun b H5 σ4 => congrFun (congrFun (congrFun fe b) H5) σ4
      simp only [fe'] at h
      exact h
  · have e : i = n := by omega
    subst e
    exact .inl ⟨Nat.le_refl _, hd ys H2 jj⟩
theorem pi_listK {X : Cx} {K : PySem.W.Frag} {tg l : Expr} {tl : TE} (h : X.K = K) (hl : PE X l tl) : PI X tg l (iList K tl) := h ▸ pi_list hl
end L2

/-! ## sorted of a list of tuples (text, text, number), no two pairs of texts alike -/
namespace L2
open PySem PySem.W PyProof.Rows
/-! ### ranks by any order -/
def rkG {α : Type} (lt : α → α → Bool) (xs : List α) (d : α) (i : Nat) : Nat := xs.countP fun y => lt y (xs.getD i d)
theorem rkG_lt {α : Type} {lt : α → α → Bool} {xs : List α} {d : α} (tr : ∀ a b c, lt a b = true → lt b c = true → lt a c = true) (irr : ∀ a, lt a a = false) {i j : Nat} (h1 : i < xs.length) (h : lt (xs.getD i d) (xs.getD j d) = true) : rkG lt xs d i < rkG lt xs d j := by
  refine countP_lt (x := xs.getD i d) (fun y hy => tr _ _ _ hy h) ?_ (irr _) h
  rw [List.getD_eq_getElem?_getD, List.getElem?_eq_getElem h1]
  exact List.getElem_mem h1
theorem rkG_iff {α : Type} {lt : α → α → Bool} {xs : List α} {d : α} (tr : ∀ a b c, lt a b = true → lt b c = true → lt a c = true) (irr : ∀ a, lt a a = false) (tot : ∀ i j, i < xs.length → j < xs.length → i ≠ j → lt (xs.getD i d) (xs.getD j d) = false → lt (xs.getD j d) (xs.getD i d) = true) {i j : Nat} (h1 : i < xs.length) (h2 : j < xs.length) (ne : i ≠ j) : decide (rkG lt xs d i < rkG lt xs d j) = lt (xs.getD i d) (xs.getD j d) := by
  cases c : lt (xs.getD i d) (xs.getD j d) with
  | true => exact decide_eq_true (rkG_lt tr irr h1 c)
  | false =>
    have := rkG_lt tr irr h2 (tot i j h1 h2 ne c)
    exact decide_eq_false (by omega)
theorem rkG_inj {α : Type} {lt : α → α → Bool} {xs : List α} {d : α} (tr : ∀ a b c, lt a b = true → lt b c = true → lt a c = true) (irr : ∀ a, lt a a = false) (tot : ∀ i j, i < xs.length → j < xs.length → i ≠ j → lt (xs.getD i d) (xs.getD j d) = false → lt (xs.getD j d) (xs.getD i d) = true) : RkInj xs.length (rkG lt xs d) := fun i j h1 h2 e => by
  by_cases dn : i = j
  · exact dn
  · cases c : lt (xs.getD i d) (xs.getD j d) with
    | true => have := rkG_lt tr irr h1 c; omega
    | false => have := rkG_lt tr irr h2 (tot i j h1 h2 dn c); omega
abbrev TT3 := Addr × Str × Str × Int
def lt3 (a b : TT3) : Bool := HT.lexLtS [a.2.1, a.2.2.1] [b.2.1, b.2.2.1]
theorem lt3_iff (a b : TT3) : lt3 a b = true ↔ (a.2.1 ≠ b.2.1 ∧ keyL a.2.1 < keyL b.2.1) ∨ (a.2.1 = b.2.1 ∧ a.2.2.1 ≠ b.2.2.1 ∧ keyL a.2.2.1 < keyL b.2.2.1) := by
  unfold lt3
  rw [HT.lexLtS_cons]
  by_cases e : a.2.1 = b.2.1
  · rw [if_pos e, HT.lexLtS_cons]
    by_cases f : a.2.2.1 = b.2.2.1
    · rw [if_pos f, HT.lexLtS_nil_nil]
      simp [e, f]
    · rw [if_neg f]
      simp only [e, f, ne_eq, not_true_eq_false, false_and, not_false_eq_true, true_and, false_or, decide_eq_true_eq]
      exact Iff.rfl
  · rw [if_neg e]
    simp only [e, ne_eq, not_false_eq_true, true_and, false_and, or_false, decide_eq_true_eq]
    exact Iff.rfl
theorem lt3_trans (a b c : TT3) (h1 : lt3 a b = true) (h2 : lt3 b c = true) : lt3 a c = true := by
  rw [lt3_iff] at *
  have irr : ∀ x : Str, ¬ keyL x < keyL x := fun x => List.lt_irrefl _
  rcases h1 with ⟨n1, l1⟩ | ⟨e1, n1, l1⟩
  · rcases h2 with ⟨n2, l2⟩ | ⟨e2, n2, l2⟩
    · have t := List.lt_trans l1 l2
      exact .inl ⟨fun z => irr c.2.1 (by rw [z] at t; exact t), t⟩
    · rw [← e2]; exact .inl ⟨n1, l1⟩
  · rw [e1]
    rcases h2 with ⟨n2, l2⟩ | ⟨e2, n2, l2⟩
    · exact .inl ⟨n2, l2⟩
    · have t := List.lt_trans l1 l2
      exact .inr ⟨e2, fun z => irr c.2.2.1 (by rw [z] at t; exact t), t⟩
theorem lt3_irr (a : TT3) : lt3 a a = false := by
  cases c : lt3 a a with
  | false => rfl
  | true =>
    rw [lt3_iff] at c
    rcases c with ⟨h, _⟩ | ⟨_, h, _⟩ <;> exact absurd rfl h
theorem lt3_tot (a b : TT3) (ne : (a.2.1, a.2.2.1) ≠ (b.2.1, b.2.2.1)) (h : lt3 a b = false) : lt3 b a = true := by
  have h' : ¬ lt3 a b = true := by rw [h]; exact Bool.false_ne_true
  rw [lt3_iff] at h' ⊢
  have tri : ∀ a b : Str, a ≠ b → ¬ keyL a < keyL b → keyL b < keyL a := fun a b ne nl => by
    by_cases d : keyL b < keyL a
    · exact d
    · exact absurd (keyL_inj (List.le_antisymm (List.not_lt.mp d) (List.not_lt.mp nl))) ne
  by_cases e : a.2.1 = b.2.1
  · have n2 : a.2.2.1 ≠ b.2.2.1 := fun z => ne (by rw [e, z])
    exact .inr ⟨e.symm, fun z => n2 z.symm, tri _ _ n2 fun l => h' (.inr ⟨e, n2, l⟩)⟩
  · exact .inl ⟨fun z => e z.symm, tri _ _ e fun l => h' (.inl ⟨e, l⟩)⟩
theorem refs_of3 : ∀ {ps : List TT3} {its : List Value}, Vals (ps.map fun q => V.ref q.1) its → its = ps.map fun q => Value.ref q.1
  | [], _, .nil => rfl
  | _ :: _, _, .cons e r => by
    have e' := e
    cases e'
    rw [refs_of3 r]
    rfl
theorem katTups3 {h : Heap} : ∀ {ps : List TT3}, (∀ q ∈ ps, ∃ (o : Obj) (t1 t2 t3 : Tok) (n : Nat), h.get? q.1 = some o ∧ o.cls = .type "tuple" ∧ o.data = .seq #[.str q.2.1 t1, .str q.2.2.1 t2, .int q.2.2.2 t3] n) → ∃ fs : List Value, KatTups h (ps.map fun q => Value.ref q.1) fs ∧ fs.length = ps.length ∧ ∀ v ∈ fs, ∃ x t, v = Value.str x t
  | [], _ => ⟨[], KatTups.nil, rfl, fun _ z => by cases z⟩
  | q :: ps, hh => by
    obtain ⟨o, t1, t2, t3, n, e1, e2, e3⟩ := hh q List.mem_cons_self
    obtain ⟨fs, k, l, hv⟩ := katTups3 (ps := ps) fun x hx => hh x (List.mem_cons_of_mem _ hx)
    refine ⟨Value.str q.2.1 t1 :: fs, KatTups.cons e1 e2 e3 rfl k, by rw [List.length_cons, List.length_cons, l], fun v hv' => ?_⟩
    rcases List.mem_cons.mp hv' with rfl | hv'
    · exact ⟨_, _, rfl⟩
    · exact hv v hv'
section
variable {X : Cx}
theorem call_sortedD : CallR X (.builtin "sorted") (fun xs H Q => ∃ (p : Addr) (ps : List TT3), xs = [.ref p] ∧ SqL X.K H p (ps.map fun q => V.ref q.1) ∧ (∀ q ∈ ps, H q.1 = some (.tup [.str q.2.1, .str q.2.2.1, .int q.2.2.2])) ∧ (ps.map fun q => (q.2.1, q.2.2.1)).Nodup ∧ ps.length < 64 ∧
    ∀ (l : Addr) (qs : List TT3), H l = none → qs.Perm ps → qs.Pairwise (fun a b => lt3 a b = true) → Q (.ref l) (upd H l (.lst (qs.map fun q => V.ref q.1)))) := by
  intro pins s σ H xs us Q I r h
  obtain ⟨p, ps, rfl, hq, hT, nd, h64, q⟩ := h
  obtain ⟨u, rfl, rx⟩ := vals1 r
  cases rx
  obtain ⟨its, r', pl, hz⟩ := I.list hq
  have eI := refs_of3 r'
  subst eI
  have tot : ∀ i j, i < ps.length → j < ps.length → i ≠ j → lt3 (ps.getD i (0, Str.empty, Str.empty, 0)) (ps.getD j (0, Str.empty, Str.empty, 0)) = false → lt3 (ps.getD j (0, Str.empty, Str.empty, 0)) (ps.getD i (0, Str.empty, Str.empty, 0)) = true := fun i j hi hj ne => by
    refine lt3_tot _ _ fun e => ?_
    rw [List.getD_eq_getElem?_getD, List.getElem?_eq_getElem hi, List.getD_eq_getElem?_getD, List.getElem?_eq_getElem hj] at e
    have pw := List.pairwise_iff_getElem.mp nd
    have e' : (ps[i].2.1, ps[i].2.2.1) = (ps[j].2.1, ps[j].2.2.1) := e
    rcases Nat.lt_trichotomy i j with c | c | c
    · exact pw i j (by rw [List.length_map]; exact hi) (by rw [List.length_map]; exact hj) c (by rw [List.getElem_map, List.getElem_map]; exact e')
    · exact ne c
    · exact pw j i (by rw [List.length_map]; exact hj) (by rw [List.length_map]; exact hi) c (by rw [List.getElem_map, List.getElem_map]; exact e'.symm)
  have lI : (ps.map fun q => Value.ref q.1).length = ps.length := List.length_map _
  refine Calls.call_function_entry kind_sorted plain_sorted entry_sorted (args_sorted1 _) ?_
  unfold Builtin.«sorted»
  refine wpAny_bind (m := checkCount "sorted" 1 1 _) (wpAny_pure ?_)
  refine wpAny_bind (collect_list pl.isList ?_)
  refine wpAny_bind (wpAny_newList ?_)
  generalize hvs : (ps.map fun q => Value.ref q.1) = vs at lI
  have hsz : ((s.heap.push (seqObj "list" #[] 0)).update s.heap.objs.size (Obj.mapSeq (· ++ vs.toArray))).objs.size = s.heap.objs.size + 1 := by
    rw [Heap.size_update, size_push']
  have hoL : (((s.heap.push (seqObj "list" #[] 0)).update s.heap.objs.size (Obj.mapSeq (· ++ vs.toArray))).push (seqObj "list" vs.toArray 0)).get? (s.heap.objs.size + 1) = some (seqObj "list" vs.toArray 0) := by
    rw [← hsz]; exact Heap.get?_push_size _ rfl
  show wpAny _ _ _ _ _ { s with heap := ((s.heap.push (seqObj "list" #[] 0)).update s.heap.objs.size (Obj.mapSeq (· ++ vs.toArray))).push (seqObj "list" vs.toArray 0) }
  rw [hsz]
  have inj : RkInj vs.length (rkG lt3 ps (0, Str.empty, Str.empty, 0)) := lI ▸ rkG_inj lt3_trans lt3_irr tot
  refine wpAny_bind (wpAny_holding (wpAny_call_entry slot_list_sort ⟨_, hoL, rfl⟩ entry_list_sort (list_sort_rk (rk := rkG lt3 ps (0, Str.empty, Str.empty, 0)) hoL (by omega) inj (fun h2 => ?_) fun qa hq hs => ⟨_, rfl, ?_⟩) (args_list_sort _)))
  · have tupAt : ∀ q ∈ ps, ∃ (o : Obj) (t1 t2 t3 : Tok) (n : Nat), s.heap.get? q.1 = some o ∧ o.cls = .type "tuple" ∧ o.data = .seq #[.str q.2.1 t1, .str q.2.2.1 t2, .int q.2.2.2 t3] n := fun q hq => by
      obtain ⟨us, ru, ⟨o, e1, e2, n, e3⟩, _⟩ := I.tuple (.inl (.inl (hT q hq)))
      obtain ⟨u1, u2, u3, rfl, r1, r2, r3⟩ : ∃ u1 u2 u3, us = [u1, u2, u3] ∧ RelV (.str q.2.1) u1 ∧ RelV (.str q.2.2.1) u2 ∧ RelV (.int q.2.2.2) u3 := by
        cases ru with
        | cons a b => cases b with
          | cons c d => cases d with
            | cons e f => cases f; exact ⟨_, _, _, rfl, a, c, e⟩
      obtain ⟨t1, rfl⟩ := r1
      obtain ⟨t2, rfl⟩ := r2
      obtain ⟨t3, rfl⟩ := r3
      exact ⟨o, t1, t2, t3, n, e1, e2, e3⟩
    have stay : ∀ a ob, s.heap.get? a = some ob → (midHeap (((s.heap.push (seqObj "list" #[] 0)).update s.heap.objs.size (Obj.mapSeq (· ++ vs.toArray))).push (seqObj "list" vs.toArray 0)) (s.heap.objs.size + 1) vs).get? a = some ob := fun a ob e => by
      have la := Heap.lt_size e
      rw [midHeap_old (Nat.ne_of_lt (Nat.lt_succ_of_lt la)) (by rw [size_push', Heap.size_update, size_push']; exact Nat.lt_succ_of_lt (Nat.lt_succ_of_lt la)), Heap.get?_push_ne _ _ _ (by rw [Heap.size_update, size_push']; exact Nat.ne_of_lt (Nat.lt_succ_of_lt la)), Heap.get?_update_ne _ _ _ _ (Nat.ne_of_lt la)]
      exact Heap.get?_push_of_some _ e
    have tupM : ∀ q ∈ ps, ∃ (o : Obj) (t1 t2 t3 : Tok) (n : Nat), (midHeap (((s.heap.push (seqObj "list" #[] 0)).update s.heap.objs.size (Obj.mapSeq (· ++ vs.toArray))).push (seqObj "list" vs.toArray 0)) (s.heap.objs.size + 1) vs).get? q.1 = some o ∧ o.cls = .type "tuple" ∧ o.data = .seq #[.str q.2.1 t1, .str q.2.2.1 t2, .int q.2.2.2 t3] n := fun q hq => by
      obtain ⟨o, t1, t2, t3, n, e1, e2, e3⟩ := tupAt q hq
      exact ⟨o, t1, t2, t3, n, stay _ _ e1, e2, e3⟩
    obtain ⟨fs, kt, lf, hv⟩ := katTups3 tupM
    rw [hvs] at kt
    refine kat_kind (fs := fs) (T := Value.type "str") kt (by omega) (fun v hv' => ?_) (by decide) ⟨rfl, fun i j C hi hj dn hC => ?_⟩
    · obtain ⟨x, t, rfl⟩ := hv v hv'
      exact Looks.of_pure rfl
    · have hi2 : i < ps.length := by omega
      have hj2 : j < ps.length := by omega
      rw [rkG_iff lt3_trans lt3_irr tot hi2 hj2 dn, List.getD_eq_getElem?_getD, List.getElem?_eq_getElem hi2, List.getD_eq_getElem?_getD, List.getElem?_eq_getElem hj2] at hC
      have nij := tot i j hi2 hj2 dn
      obtain ⟨oi, i1, i2, i3, ni, gi, _, di⟩ := tupM ps[i] (List.getElem_mem hi2)
      obtain ⟨oj, j1, j2, j3, nj, gj, _, dj⟩ := tupM ps[j] (List.getElem_mem hj2)
      have vi : vs.getD i Value.none = Value.ref ps[i].1 := by rw [← hvs, List.getD_eq_getElem?_getD, List.getElem?_map, List.getElem?_eq_getElem hi2]; rfl
      have vj : vs.getD j Value.none = Value.ref ps[j].1 := by rw [← hvs, List.getD_eq_getElem?_getD, List.getElem?_map, List.getElem?_eq_getElem hj2]; rfl
      show wpAny _ _ (keyLt' _ (vs.getD i Value.none) (vs.getD j Value.none)) C _ _
      rw [vi, vj]
      refine kat_lt gi di gj dj ?_
      show KatLex _ _ _ _ _ _ [(Value.str ps[i].2.1 i1, Value.str ps[j].2.1 j1), (Value.str ps[i].2.2.1 i2, Value.str ps[j].2.2.1 j2), (Value.int ps[i].2.2.2 i3, Value.int ps[j].2.2.2 j3)] 0 _
      have ne2 : ps[i].2.1 = ps[j].2.1 → ps[i].2.2.1 ≠ ps[j].2.2.1 := fun e f => by
        have pw := List.pairwise_iff_getElem.mp nd
        have e' : (ps[i].2.1, ps[i].2.2.1) = (ps[j].2.1, ps[j].2.2.1) := by rw [e, f]
        rcases Nat.lt_trichotomy i j with c | c | c
        · exact pw i j (by rw [List.length_map]; exact hi2) (by rw [List.length_map]; exact hj2) c (by rw [List.getElem_map, List.getElem_map]; exact e')
        · exact dn c
        · exact pw j i (by rw [List.length_map]; exact hj2) (by rw [List.length_map]; exact hi2) c (by rw [List.getElem_map, List.getElem_map]; exact e'.symm)
      have hC' : C (HT.lexLtS [ps[i].2.1, ps[i].2.2.1] [ps[j].2.1, ps[j].2.2.1]) _ := hC
      refine kat_cons (wpAny_eqBool_str ?_)
      by_cases e : ps[i].2.1 = ps[j].2.1
      · rw [decide_eq_true e]
        rw [HT.lexLtS_cons, if_pos e, HT.lexLtS_cons, if_neg (ne2 e)] at hC'
        refine kat_yes (kat_cons (wpAny_eqBool_str ?_))
        rw [decide_eq_false (ne2 e)]
        refine kat_no ?_
        show wpAny _ _ (oneLt' false _ _) _ _ _
        refine kat_one _ _ (lt_str hC')
      · rw [decide_eq_false e]
        rw [HT.lexLtS_cons, if_neg e] at hC'
        refine kat_no ?_
        show wpAny _ _ (oneLt' true _ _) _ _ _
        exact oneLt_str hC'
  · have mem : ∀ i ∈ qa.toList, i < ps.length := fun i m => by
      have := List.mem_range.mp (hq.mem_iff.mp m)
      omega
    obtain ⟨e, he⟩ := sortedAll_at s.heap vs (outOf vs qa).toArray
    refine wpAny_pure ⟨_, rfl, .ref (s.heap.objs.size + 1), _, I.laid (t' := s.toks) (fun b o e => sortedAll_old e) (Nat.le_succ _) (show ObjOk X.prog X.w _ _ _ (.lst ((qa.toList.map fun i => ps.getD i (0, Str.empty, Str.empty, 0)).map fun q => V.ref q.1)) from ⟨?_, outOf vs qa, e, ?_, he⟩), rfl, q _ (qa.toList.map fun i => ps.getD i (0, Str.empty, Str.empty, 0)) (I.hok.fresh (Nat.le_succ _)) ?_ ?_⟩
    · rw [List.length_map, List.length_map, Array.length_toList, hq.size, sizeLine_eq]
      omega
    · rw [List.map_map]
      refine paired_map2 _ fun i m => ?_
      show vs.getD i Value.none = Value.ref (ps.getD i (0, Str.empty, Str.empty, 0)).1
      rw [← hvs, List.getD_eq_getElem?_getD, List.getElem?_map, List.getElem?_eq_getElem (mem i m), List.getD_eq_getElem?_getD, List.getElem?_eq_getElem (mem i m)]
      rfl
    · have e : (List.range vs.length).map (fun i => ps.getD i (0, Str.empty, Str.empty, 0)) = ps := by
        apply List.ext_getElem
        · simp [lI]
        · intro i h1 h2
          simp [h2]
      exact (hq.map _).trans (by rw [e])
    · refine List.pairwise_iff_getElem.mpr fun i j h1 h2 hij => ?_
      have n1 : i < vs.length := by rw [List.length_map, Array.length_toList, hq.size] at h1; exact h1
      have n2 : j < vs.length := by rw [List.length_map, Array.length_toList, hq.size] at h2; exact h2
      have le := hs i j (Nat.le_of_lt hij) n2
      have ne : gk (rkG lt3 ps (0, Str.empty, Str.empty, 0)) qa i ≠ gk (rkG lt3 ps (0, Str.empty, Str.empty, 0)) qa j := fun e => Nat.ne_of_lt hij (hq.ne inj n1 n2 e)
      have lt : rkG lt3 ps (0, Str.empty, Str.empty, 0) (qa.getD i 0) < rkG lt3 ps (0, Str.empty, Str.empty, 0) (qa.getD j 0) := Nat.lt_of_le_of_ne le ne
      have m1 : qa.getD i 0 < ps.length := by rw [← lI]; exact hq.lt n1
      have m2 : qa.getD j 0 < ps.length := by rw [← lI]; exact hq.lt n2
      have lt2 := rkG_iff lt3_trans lt3_irr tot m1 m2 (hq.dif n1 n2 (Nat.ne_of_lt hij))
      rw [decide_eq_true lt] at lt2
      have z1 : i < qa.size := by rw [hq.size]; exact n1
      have z2 : j < qa.size := by rw [hq.size]; exact n2
      rw [List.getElem_map, List.getElem_map, Array.getElem_toList, Array.getElem_toList, ← getD_get z1, ← getD_get z2]
      exact lt2.symm
end
end L2

/-! ## a walk over a dict that stays as it is; sorted(d) of texts; sorted of pairs (text, number) -/
namespace L2
open PySem PySem.W PyProof.Rows
theorem is_kV {P : Program} {w : World} {k : Key} {u : Value} (h : (mixKind P w).is k u = true) : RelV (kV k) u := by
  cases k with
  | inl i => exact Value.isInt_shape h
  | inr x => exact Value.isStrOf_shape h
def ItD (d : Addr) (ob : Obj) (kvs : List (Key × V)) : It := ⟨fun i H => i < kvs.length ∧ H d = some (.frz ob (.dK kvs)), fun i H x H' => H' = H ∧ ∃ k v, kvs[i]? = some (k, v) ∧ x = kV k, fun i H => kvs.length ≤ i ∧ H d = some (.frz ob (.dK kvs))⟩
def iDict (tl : TE) : TI := fun σ H R => tl σ H fun x H1 => ∃ (d : Addr) (kvs : List (Key × V)), x = .ref d ∧ H1 d = some (.dK kvs) ∧ ∀ ob, R (ItD d ob kvs) (upd H1 d (.frz ob (.dK kvs)))
theorem turn_dict {P : Program} {w : World} {K : PySem.W.Frag} {tg : Expr} {it d : Addr} {ob : Obj} {kvs : List (Key × V)} {vs : List (Key × Value)} {ep : Nat} (rel : KV kvs vs) (da : ∀ h : Heap, h.get? d = some ob → h.DictAt (mixKind P w) d vs ep) :
    Turn P w K tg (ItD d ob kvs) [it] it (fun i h => h.IsKeyIter it d i vs.length ep) where
  mem := by simp
  obj := fun i h st b hb => by
    have e : b = it := by simpa using hb
    subst e
    obtain ⟨o, e, c, d⟩ := st
    exact ⟨o, e, fun v z => by rw [d] at z; cases z⟩
  keep := fun i h h' st k => st.at fun o e => k it (by simp) o e
  item := by
    intro X hP hw hK hc i pins s σ H E I hf st hg
    subst hP hw hK
    have hgo := (show ObjOk X.prog X.w H s.heap d (.frz ob (.dK kvs)) from I.hok d _ hg.2)
    have hgi : i < kvs.length := hg.1
    obtain ⟨f0, f1, f2, f3, f4, f5⟩ := hf it (by simp)
    obtain ⟨b, eb, e5, e6⟩ := paired_get rel (List.getElem?_eq_getElem hgi)
    refine wpAny_pyNext_dict_item (k := b.1) (v := b.2) st (da _ hgo.1) eb fun key h' hkey st' sb => ?_
    have I1 : Inv X pins σ H { s with heap := h' } := I.turned (t' := s.toks) (fun b o hb e => (sb.2 b hb).trans e) f0 f1 f3 f4 f5
    obtain ⟨o, e, c, d⟩ := id st'
    have rk : RelV (kV kvs[i].1) key := by rw [e5]; exact is_kV hkey
    exact ⟨key, rfl, go_of (s := { s with heap := h' }) e c d (by decide) ⟨kV kvs[i].1, H, I1, rk, ⟨rfl, _, _, List.getElem?_eq_getElem hgi, rfl⟩, st', fun b hb => (hf b hb).1⟩⟩
  done := by
    intro X hP hw hK hc i pins s σ H E I hf st hg
    subst hP hw hK
    have hgo := (show ObjOk X.prog X.w H s.heap d (.frz ob (.dK kvs)) from I.hok d _ hg.2)
    obtain ⟨f0, f1, f2, f3, f4, f5⟩ := hf it (by simp)
    have hl : kvs.length = vs.length := paired_len rel
    have h1 := hg.1
    exact wpAny_pyNext_dict_end (I.ok.hd hc) st (da _ hgo.1) (List.getElem?_eq_none (by omega)) fun h' eb => ⟨rfl, I.turned (t' := s.toks) (fun b o hb e => eb b o hb e) f0 f1 f3 f4 f5⟩
  self := fun _ _ _ _ _ st h => wpAny_pyIter_keyiter st h
section
variable {X : Cx} {tg : Expr}
theorem pi_dict {l : Expr} {tl : TE} (hl : PE X l tl) : PI X tg l (iDict tl) := by
  intro pins s σ H R I h
  refine thn (hl pins s σ H _ I h) fun v s1 ⟨x, H1, I1, r1, q1⟩ => ?_
  obtain ⟨d, kvs, e, ed, q⟩ := q1
  subst e
  cases r1
  obtain ⟨hsz, hd, vs, rel, dd⟩ := dk_of I1.hok ed
  obtain ⟨ep, da⟩ := dd.dictAt
  obtain ⟨ob, es, ho, h2, h3, h4, h5, h6⟩ := id da
  have I2 : Inv X pins σ (upd H1 d (.frz ob (.dK kvs))) s1 := I1.write (x := d) (e := d) (h' := s1.heap) (t' := s1.toks) (by rw [ed]; exact True.intro) (.inl rfl) (fun b u _ q => q) ⟨ob, ho⟩ ⟨ho, hsz, hd, vs, rel, dd⟩
  refine wpAny_pyIter_dict hd da ?_
  refine ⟨s1.heap.objs.size, [s1.heap.objs.size], _, _, _, rfl, I2.kept (t' := s1.toks) fun b o e => Heap.get?_push_of_some _ e, turn_dict (ob := ob) (vs := vs) (ep := ep) rel (fun h e => ⟨ob, es, e, h2, h3, h4, h5, h6⟩), ⟨_, Heap.get?_push_size _ rfl, rfl, rfl⟩, fun b hb => ?_, q ob⟩
  have e : b = s1.heap.objs.size := by simpa using hb
  subst e
  exact I2.fpOk (Nat.le_refl _) (I2.hok.fresh (Nat.le_refl _))
end
theorem for_dict {d : Addr} {ob : Obj} {kvs : List (Key × V)} {g : TG} {tb : TS} {D : Ends} {σ : St} {H : Hp} (Pv : Nat → St → Hp → Prop) (h0 : Pv 0 σ H) (hf : ∀ i σ H, Pv i σ H → H d = some (.frz ob (.dK kvs)))
    (hs : ∀ i k v σ H, kvs[i]? = some (k, v) → Pv i σ H → g (kV k) σ H fun σ2 H2 => tb { D with nx := Pv (i + 1), ct := Pv (i + 1), bk := D.nx } σ2 H2) (hd : ∀ σ H, Pv kvs.length σ H → D.nx σ H) :
    ∃ W : Nat → Nat → St → Hp → Prop, (∃ m, W 0 m σ H) ∧ ∀ i m σ H, W i m σ H →
      ((ItD d ob kvs).stop i H ∧ D.nx σ H) ∨ ((ItD d ob kvs).go i H ∧ ∃ N : St → Hp → Prop, (∀ σ' H', N σ' H' → ∃ m', m' < m ∧ W (i + 1) m' σ' H') ∧ ∀ x H', (ItD d ob kvs).yld i H x H' → g x σ H' fun σ2 H2 => tb { D with nx := N, ct := N, bk := D.nx } σ2 H2) := by
  refine ⟨fun i m σ H => m = kvs.length - i ∧ i ≤ kvs.length ∧ Pv i σ H, ⟨kvs.length, by simp, Nat.zero_le _, h0⟩, ?_⟩
  rintro i m σ H ⟨rfl, hi, p⟩
  by_cases hlt : i < kvs.length
  · refine .inr ⟨⟨hlt, hf i σ H p⟩, Pv (i + 1), fun σ' H' p' => ⟨kvs.length - (i + 1), by omega, rfl, hlt, p'⟩, fun x H' y => ?_⟩
    obtain ⟨e, k, v, e1, e2⟩ := y
    subst e e2
    exact hs i k v σ _ e1 p
  · have e : i = kvs.length := by omega
    subst e
    exact .inl ⟨⟨Nat.le_refl _, hf _ σ H p⟩, hd σ H p⟩
/-! ### sorted(d) -/
section
variable {prog : Program} {w : World} {A : Around} {E : Value → Shared → Prop} {s : Shared}
theorem collect_dict {d : Addr} {kvs : List (Key × Value)} {ep : Nat} {Q : List Value → Shared → Prop} (hh : A.handled = none) (hd : (d == sysModules) = false) (hm : s.heap.DictAt (mixKind prog w) d kvs ep) (hn : kvs.length ≤ sizeLine)
    (h : ∀ (h' : Heap) (tk : Nat) (vs : List Value), (∀ b o, s.heap.get? b = some o → h'.get? b = some o) → s.heap.objs.size < h'.objs.size → vs.length = kvs.length → (∀ (j : Nat) (v : Value), vs[j]? = some v → ∃ k x, kvs[j]? = some (k, x) ∧ (mixKind prog w).is k v = true) → Q vs { s with heap := h', toks := tk }) :
    wpAny (model prog w) A (collect (.ref d)) Q E s := by
  have hlt : d < s.heap.objs.size := hm.lt_size
  have src := kdl_dict (prog := prog) (w := w) (knd := mixKind prog w) (kvs := kvs) (ep := ep) hd
  unfold collect
  refine wpAny_bind (wpAny_runValue (codeAny_builtin entry_proto_collect' ?_))
  rw [Around.under_plainId PySem.F.plain_proto_collect _]
  show wpAny _ A.in1 (newList [] >>= fun l => again (.builtin "list.__iadd__" ⟨[l, .ref d], []⟩)) _ _ s
  refine wpAny_bind (wpAny_newObj_type ?_)
  refine wpAny_pure ⟨plainId_quiet PySem.F.plain_list_iadd _, codeAny_builtin entry_list_iadd' ?_⟩
  rw [Around.under_plainId PySem.F.plain_list_iadd _]
  have hS₁ : (s.heap.push { cls := .type "list", data := .seq ([] : List Value).toArray }).get? s.heap.objs.size = some { cls := .type "list", data := .seq #[] } := Heap.get?_push_size _ rfl
  show wpAny _ A.in1 (Builtin.List.listExtendWith (.ref s.heap.objs.size) (.ref d) (.ref s.heap.objs.size)) _ _ _
  have key := kdl_extend (A := A) (s := { s with heap := s.heap.push { cls := .type "list", data := .seq ([] : List Value).toArray } }) src
    (R := fun (q : Result) (s' : Shared) => ∃ (h' : Heap) (tk : Nat) (acc' : Array Value) (c' : Nat), q = .ok (.ret (.ref s.heap.objs.size)) ∧ s' = { s with heap := h', toks := tk } ∧
      (∀ b o, s.heap.get? b = some o → h'.get? b = some o) ∧ h'.get? s.heap.objs.size = some { cls := .type "list", dict := none, data := .seq acc' c', slots := #[] } ∧ ItemsOf (fun i v => ∃ k x, kvs[i]? = some (k, x) ∧ (mixKind prog w).is k v = true) acc' kvs.length)
    hh (hm.push _) s.heap.objs.size (Nat.ne_of_gt hlt) (Nat.ne_of_gt hlt) (.ref s.heap.objs.size) 0 hS₁
    (fun h' tk acc' c' hk hS' hacc => ⟨h', tk, acc', c', rfl, rfl, fun b o e => hk b o (Nat.ne_of_lt (Heap.lt_size e)) (Heap.get?_push_of_some _ e), hS', hacc⟩) hn
  have fin : ∀ (h' : Heap) (tk : Nat) (acc' : Array Value) (c' : Nat), (∀ b o, s.heap.get? b = some o → h'.get? b = some o) → h'.get? s.heap.objs.size = some { cls := .type "list", dict := none, data := .seq acc' c', slots := #[] } → ItemsOf (fun i v => ∃ k x, kvs[i]? = some (k, x) ∧ (mixKind prog w).is k v = true) acc' kvs.length → Q acc'.toList { s with heap := h', toks := tk } := fun h' tk acc' c' hk hS' hacc =>
    h h' tk acc'.toList hk (Heap.lt_size hS') (by rw [Array.length_toList]; exact hacc.1) fun j v e => hacc.2 j v (by rw [← Array.getElem?_toList]; exact e)
  refine wpAny_mono key (fun fin' s' x => ?_) fun e s' x => ?_
  · cases fin' with
    | done f =>
      obtain ⟨h', tk, acc', c', e, rfl, hk, hS', hacc⟩ := x
      cases e
      show wpAny _ A (load s.heap.objs.size >>= _) _ _ _
      refine wpAny_bind (wpAny_load hS' ?_)
      exact wpAny_pure (fin h' tk acc' c' hk hS' hacc)
    | again c₁ =>
      refine ⟨x.1, codeAny_mono x.2 fun q s₂ y => ?_⟩
      obtain ⟨h', tk, acc', c', rfl, rfl, hk, hS', hacc⟩ := y
      show wpAny _ A (load s.heap.objs.size >>= _) _ _ _
      refine wpAny_bind (wpAny_load hS' ?_)
      exact wpAny_pure (fin h' tk acc' c' hk hS' hacc)
  · obtain ⟨_, _, _, _, e', _⟩ := x
    cases e'
end
theorem strs_at {n : Nat} : ∀ {ps : List (Str × V)} {vs : List Value}, vs.length = ps.length → (∀ (j : Nat) (v : Value) (p : Str × V), vs[j]? = some v → ps[j]? = some p → ∃ t, v = Value.str p.1 t) → StrsAre vs (ps.map (·.1))
  | [], [], _, _ => .nil
  | [], _ :: _, h, _ => by cases h
  | _ :: _, [], h, _ => by cases h
  | p :: ps, v :: vs, h, hv => by
    obtain ⟨t, rfl⟩ := hv 0 v p rfl rfl
    exact .cons p.1 t (strs_at (n := n) (by simpa using h) fun j v q e1 e2 => hv (j + 1) v q e1 e2)

section
variable {X : Cx}
theorem call_sortedK (hc : X.calm = true) : CallR X (.builtin "sorted") (fun xs H Q => ∃ (d : Addr) (ps : List (Str × V)), xs = [.ref d] ∧ H d = some (.dK (ps.map fun p => (Sum.inr p.1, p.2))) ∧ ps.length < 64 ∧ ∀ (l : Addr) (ms : List Str), H l = none → ms.Perm (ps.map (·.1)) → ms.Pairwise (fun a b => keyL a < keyL b) → Q (.ref l) (upd H l (.lst (ms.map V.str)))) := by
  intro pins s σ H xs us Q I r h
  obtain ⟨d, ps, rfl, ed, h64, q⟩ := h
  obtain ⟨u, rfl, rx⟩ := vals1 r
  cases rx
  obtain ⟨hsz, hd, vs, rel, dd⟩ := dk_of I.hok ed
  have ndK : (vs.map (·.1)).Nodup := by obtain ⟨_, _, _, _, _, _, _, _, z⟩ := dd; exact z
  have nd : (ps.map (·.1)).Nodup := by
    have ek : vs.map (·.1) = (ps.map (·.1)).map (Sum.inr : Str → Key) := by
      rw [← KV.keys rel, List.map_map, List.map_map]
      rfl
    rw [ek] at ndK
    exact (List.pairwise_map.mp ndK).imp fun {a b} z e => z (by rw [e])
  obtain ⟨ep, da⟩ := dd.dictAt
  have lv : vs.length = ps.length := by rw [← paired_len rel, List.length_map]
  refine Calls.call_function_entry kind_sorted plain_sorted entry_sorted (args_sorted1 _) ?_
  unfold Builtin.«sorted»
  refine wpAny_bind (m := checkCount "sorted" 1 1 _) (wpAny_pure ?_)
  refine wpAny_bind (collect_dict (A := X.A.in1) (I.ok.hd hc) hd da (by rw [lv, sizeLine_eq]; omega) fun h' tk ws hk hlt hl hw => ?_)
  have hlp : ws.length = ps.length := hl.trans lv
  have hS : StrsAre ws (ps.map (·.1)) := strs_at (n := 0) hlp fun j v p e1 e2 => by
    obtain ⟨k, x, e3, e4⟩ := hw j v e1
    obtain ⟨b, e5, e6, _⟩ := paired_get rel (show (ps.map fun p => ((Sum.inr p.1 : Key), p.2))[j]? = some (Sum.inr p.1, p.2) by rw [List.getElem?_map, e2]; rfl)
    rw [e3] at e5
    cases e5
    have e6' : (Sum.inr p.1 : Key) = k := e6
    subst e6'
    exact Value.isStrOf_shape (x := p.1) (v := v) e4
  refine wpAny_bind (wpAny_newList ?_ (by rw [hlp, sizeLine_eq]; omega))
  have hoL : (h'.push (seqObj "list" ws.toArray 0)).get? h'.objs.size = some (seqObj "list" ws.toArray 0) := Heap.get?_push_size _ rfl
  refine wpAny_bind (wpAny_holding (wpAny_call_entry slot_list_sort ⟨_, hoL, rfl⟩ entry_list_sort (list_sort_treeK strKind_oneLt hoL hS.keysOf (fun v₁ v₂ rest e => keyKind_strs (by rw [← e]; exact hS)) (by omega) fun st' hp hs => ⟨_, rfl, ?_⟩) (args_list_sort _)))
  obtain ⟨ms, a1, a2, a3⟩ := sorted_out_str hS hp hs
  obtain ⟨ee, he2⟩ := sortedHeap_at (vs := ws) (out := (arrOf st').map (·.2)) hoL
  have old : ∀ b ob, h'.get? b = some ob → (sortedHeap (h'.push (seqObj "list" ws.toArray 0)) h'.objs.size ws ((arrOf st').map (·.2))).get? b = some ob := fun b ob e => by
    have lb := Heap.lt_size e
    rw [sortedHeap_old (Nat.ne_of_lt lb) (by rw [size_push']; exact Nat.lt_succ_of_lt lb)]
    exact Heap.get?_push_of_some _ e
  have lm : ms.length = ps.length := by rw [a2.length_eq, List.length_map]
  have ndm : ms.Nodup := a2.nodup_iff.mpr nd
  refine wpAny_pure ⟨_, rfl, .ref h'.objs.size, _, I.laid (t' := tk) (fun b o e => old b o (hk b o e)) (Nat.le_of_lt hlt) (show ObjOk X.prog X.w _ _ _ (.lst (ms.map V.str)) from ⟨?_, ((arrOf st').map (·.2)).toList, ee, strs_back a1, he2⟩), rfl, q _ ms (I.hok.fresh (Nat.le_of_lt hlt)) a2 ?_⟩
  · rw [List.length_map, lm, sizeLine_eq]
    omega
  · refine ((sortedS_pw a3).and ndm).imp fun {a b} z => ?_
    by_cases c : keyL a < keyL b
    · exact c
    · exact absurd (keyL_inj (List.le_antisymm (List.not_lt.mp z.1) (List.not_lt.mp c))) z.2
end

abbrev TT2 := Addr × Str × Int
def lt2 (a b : TT2) : Bool := decide (keyL a.2.1 < keyL b.2.1)
theorem lt2_trans (a b c : TT2) (h1 : lt2 a b = true) (h2 : lt2 b c = true) : lt2 a c = true := decide_eq_true (List.lt_trans (of_decide_eq_true h1) (of_decide_eq_true h2))
theorem lt2_irr (a : TT2) : lt2 a a = false := decide_eq_false (List.lt_irrefl _)
theorem lt2_tot (a b : TT2) (ne : a.2.1 ≠ b.2.1) (h : lt2 a b = false) : lt2 b a = true := by
  have nl : ¬ keyL a.2.1 < keyL b.2.1 := of_decide_eq_false h
  by_cases d : keyL b.2.1 < keyL a.2.1
  · exact decide_eq_true d
  · exact absurd (keyL_inj (List.le_antisymm (List.not_lt.mp d) (List.not_lt.mp nl))) ne
theorem refs_of2n : ∀ {ps : List TT2} {its : List Value}, Vals (ps.map fun q => V.ref q.1) its → its = ps.map fun q => Value.ref q.1
  | [], _, .nil => rfl
  | _ :: _, _, .cons e r => by
    have e' := e
    cases e'
    rw [refs_of2n r]
    rfl
theorem katTups2n {h : Heap} : ∀ {ps : List TT2}, (∀ q ∈ ps, ∃ (o : Obj) (t1 t2 : Tok) (n : Nat), h.get? q.1 = some o ∧ o.cls = .type "tuple" ∧ o.data = .seq #[.str q.2.1 t1, .int q.2.2 t2] n) → ∃ fs : List Value, KatTups h (ps.map fun q => Value.ref q.1) fs ∧ fs.length = ps.length ∧ ∀ v ∈ fs, ∃ x t, v = Value.str x t
  | [], _ => ⟨[], KatTups.nil, rfl, fun _ z => by cases z⟩
  | q :: ps, hh => by
    obtain ⟨o, t1, t2, n, e1, e2, e3⟩ := hh q List.mem_cons_self
    obtain ⟨fs, k, l, hv⟩ := katTups2n (ps := ps) fun x hx => hh x (List.mem_cons_of_mem _ hx)
    refine ⟨Value.str q.2.1 t1 :: fs, KatTups.cons e1 e2 e3 rfl k, by rw [List.length_cons, List.length_cons, l], fun v hv' => ?_⟩
    rcases List.mem_cons.mp hv' with rfl | hv'
    · exact ⟨_, _, rfl⟩
    · exact hv v hv'
section
variable {X : Cx}
theorem call_sortedP : CallR X (.builtin "sorted") (fun xs H Q => ∃ (p : Addr) (ps : List TT2), xs = [.ref p] ∧ SqL X.K H p (ps.map fun q => V.ref q.1) ∧ (∀ q ∈ ps, H q.1 = some (.tup [.str q.2.1, .int q.2.2])) ∧ (ps.map fun q => q.2.1).Nodup ∧ ps.length < 64 ∧
    ∀ (l : Addr) (qs : List TT2), H l = none → qs.Perm ps → qs.Pairwise (fun a b => lt2 a b = true) → Q (.ref l) (upd H l (.lst (qs.map fun q => V.ref q.1)))) := by
  intro pins s σ H xs us Q I r h
  obtain ⟨p, ps, rfl, hq, hT, nd, h64, q⟩ := h
  obtain ⟨u, rfl, rx⟩ := vals1 r
  cases rx
  obtain ⟨its, r', pl, hz⟩ := I.list hq
  have eI := refs_of2n r'
  subst eI
  have tot : ∀ i j, i < ps.length → j < ps.length → i ≠ j → lt2 (ps.getD i (0, Str.empty, 0)) (ps.getD j (0, Str.empty, 0)) = false → lt2 (ps.getD j (0, Str.empty, 0)) (ps.getD i (0, Str.empty, 0)) = true := fun i j hi hj ne => by
    refine lt2_tot _ _ fun e => ?_
    rw [List.getD_eq_getElem?_getD, List.getElem?_eq_getElem hi, List.getD_eq_getElem?_getD, List.getElem?_eq_getElem hj] at e
    have pw := List.pairwise_iff_getElem.mp nd
    have e' : ps[i].2.1 = ps[j].2.1 := e
    rcases Nat.lt_trichotomy i j with c | c | c
    · exact pw i j (by rw [List.length_map]; exact hi) (by rw [List.length_map]; exact hj) c (by rw [List.getElem_map, List.getElem_map]; exact e')
    · exact ne c
    · exact pw j i (by rw [List.length_map]; exact hj) (by rw [List.length_map]; exact hi) c (by rw [List.getElem_map, List.getElem_map]; exact e'.symm)
  have lI : (ps.map fun q => Value.ref q.1).length = ps.length := List.length_map _
  refine Calls.call_function_entry kind_sorted plain_sorted entry_sorted (args_sorted1 _) ?_
  unfold Builtin.«sorted»
  refine wpAny_bind (m := checkCount "sorted" 1 1 _) (wpAny_pure ?_)
  refine wpAny_bind (collect_list pl.isList ?_)
  refine wpAny_bind (wpAny_newList ?_)
  generalize hvs : (ps.map fun q => Value.ref q.1) = vs at lI
  have hsz : ((s.heap.push (seqObj "list" #[] 0)).update s.heap.objs.size (Obj.mapSeq (· ++ vs.toArray))).objs.size = s.heap.objs.size + 1 := by
    rw [Heap.size_update, size_push']
  have hoL : (((s.heap.push (seqObj "list" #[] 0)).update s.heap.objs.size (Obj.mapSeq (· ++ vs.toArray))).push (seqObj "list" vs.toArray 0)).get? (s.heap.objs.size + 1) = some (seqObj "list" vs.toArray 0) := by
    rw [← hsz]; exact Heap.get?_push_size _ rfl
  show wpAny _ _ _ _ _ { s with heap := ((s.heap.push (seqObj "list" #[] 0)).update s.heap.objs.size (Obj.mapSeq (· ++ vs.toArray))).push (seqObj "list" vs.toArray 0) }
  rw [hsz]
  have inj : RkInj vs.length (rkG lt2 ps (0, Str.empty, 0)) := lI ▸ rkG_inj lt2_trans lt2_irr tot
  refine wpAny_bind (wpAny_holding (wpAny_call_entry slot_list_sort ⟨_, hoL, rfl⟩ entry_list_sort (list_sort_rk (rk := rkG lt2 ps (0, Str.empty, 0)) hoL (by omega) inj (fun h2 => ?_) fun qa hq hs => ⟨_, rfl, ?_⟩) (args_list_sort _)))
  · have tupAt : ∀ q ∈ ps, ∃ (o : Obj) (t1 t2 : Tok) (n : Nat), s.heap.get? q.1 = some o ∧ o.cls = .type "tuple" ∧ o.data = .seq #[.str q.2.1 t1, .int q.2.2 t2] n := fun q hq => by
      obtain ⟨us, ru, ⟨o, e1, e2, n, e3⟩, _⟩ := I.tuple (.inl (.inl (hT q hq)))
      obtain ⟨u1, u2, rfl, r1, r2⟩ : ∃ u1 u2, us = [u1, u2] ∧ RelV (.str q.2.1) u1 ∧ RelV (.int q.2.2) u2 := by
        cases ru with
        | cons a b => cases b with
          | cons c d => cases d; exact ⟨_, _, rfl, a, c⟩
      obtain ⟨t1, rfl⟩ := r1
      obtain ⟨t2, rfl⟩ := r2
      exact ⟨o, t1, t2, n, e1, e2, e3⟩
    have stay : ∀ a ob, s.heap.get? a = some ob → (midHeap (((s.heap.push (seqObj "list" #[] 0)).update s.heap.objs.size (Obj.mapSeq (· ++ vs.toArray))).push (seqObj "list" vs.toArray 0)) (s.heap.objs.size + 1) vs).get? a = some ob := fun a ob e => by
      have la := Heap.lt_size e
      rw [midHeap_old (Nat.ne_of_lt (Nat.lt_succ_of_lt la)) (by rw [size_push', Heap.size_update, size_push']; exact Nat.lt_succ_of_lt (Nat.lt_succ_of_lt la)), Heap.get?_push_ne _ _ _ (by rw [Heap.size_update, size_push']; exact Nat.ne_of_lt (Nat.lt_succ_of_lt la)), Heap.get?_update_ne _ _ _ _ (Nat.ne_of_lt la)]
      exact Heap.get?_push_of_some _ e
    have tupM : ∀ q ∈ ps, ∃ (o : Obj) (t1 t2 : Tok) (n : Nat), (midHeap (((s.heap.push (seqObj "list" #[] 0)).update s.heap.objs.size (Obj.mapSeq (· ++ vs.toArray))).push (seqObj "list" vs.toArray 0)) (s.heap.objs.size + 1) vs).get? q.1 = some o ∧ o.cls = .type "tuple" ∧ o.data = .seq #[.str q.2.1 t1, .int q.2.2 t2] n := fun q hq => by
      obtain ⟨o, t1, t2, n, e1, e2, e3⟩ := tupAt q hq
      exact ⟨o, t1, t2, n, stay _ _ e1, e2, e3⟩
    obtain ⟨fs, kt, lf, hv⟩ := katTups2n tupM
    rw [hvs] at kt
    refine kat_kind (fs := fs) (T := Value.type "str") kt (by omega) (fun v hv' => ?_) (by decide) ⟨rfl, fun i j C hi hj dn hC => ?_⟩
    · obtain ⟨x, t, rfl⟩ := hv v hv'
      exact Looks.of_pure rfl
    · have hi2 : i < ps.length := by omega
      have hj2 : j < ps.length := by omega
      rw [rkG_iff lt2_trans lt2_irr tot hi2 hj2 dn, List.getD_eq_getElem?_getD, List.getElem?_eq_getElem hi2, List.getD_eq_getElem?_getD, List.getElem?_eq_getElem hj2] at hC
      have nij := tot i j hi2 hj2 dn
      obtain ⟨oi, i1, i2, ni, gi, _, di⟩ := tupM ps[i] (List.getElem_mem hi2)
      obtain ⟨oj, j1, j2, nj, gj, _, dj⟩ := tupM ps[j] (List.getElem_mem hj2)
      have vi : vs.getD i Value.none = Value.ref ps[i].1 := by rw [← hvs, List.getD_eq_getElem?_getD, List.getElem?_map, List.getElem?_eq_getElem hi2]; rfl
      have vj : vs.getD j Value.none = Value.ref ps[j].1 := by rw [← hvs, List.getD_eq_getElem?_getD, List.getElem?_map, List.getElem?_eq_getElem hj2]; rfl
      show wpAny _ _ (keyLt' _ (vs.getD i Value.none) (vs.getD j Value.none)) C _ _
      rw [vi, vj]
      refine kat_lt gi di gj dj ?_
      show KatLex _ _ _ _ _ _ [(Value.str ps[i].2.1 i1, Value.str ps[j].2.1 j1), (Value.int ps[i].2.2 i2, Value.int ps[j].2.2 j2)] 0 _
      have ne2 : ps[i].2.1 ≠ ps[j].2.1 := fun e' => by
        have pw := List.pairwise_iff_getElem.mp nd
        rcases Nat.lt_trichotomy i j with c | c | c
        · exact pw i j (by rw [List.length_map]; exact hi2) (by rw [List.length_map]; exact hj2) c (by rw [List.getElem_map, List.getElem_map]; exact e')
        · exact dn c
        · exact pw j i (by rw [List.length_map]; exact hj2) (by rw [List.length_map]; exact hi2) c (by rw [List.getElem_map, List.getElem_map]; exact e'.symm)
      have hC' : C (decide (keyL ps[i].2.1 < keyL ps[j].2.1)) _ := hC
      refine kat_cons (wpAny_eqBool_str ?_)
      rw [decide_eq_false ne2]
      refine kat_no ?_
      show wpAny _ _ (oneLt' true _ _) _ _ _
      exact oneLt_str hC'
  · have mem : ∀ i ∈ qa.toList, i < ps.length := fun i m => by
      have := List.mem_range.mp (hq.mem_iff.mp m)
      omega
    obtain ⟨e, he⟩ := sortedAll_at s.heap vs (outOf vs qa).toArray
    refine wpAny_pure ⟨_, rfl, .ref (s.heap.objs.size + 1), _, I.laid (t' := s.toks) (fun b o e => sortedAll_old e) (Nat.le_succ _) (show ObjOk X.prog X.w _ _ _ (.lst ((qa.toList.map fun i => ps.getD i (0, Str.empty, 0)).map fun q => V.ref q.1)) from ⟨?_, outOf vs qa, e, ?_, he⟩), rfl, q _ (qa.toList.map fun i => ps.getD i (0, Str.empty, 0)) (I.hok.fresh (Nat.le_succ _)) ?_ ?_⟩
    · rw [List.length_map, List.length_map, Array.length_toList, hq.size, sizeLine_eq]
      omega
    · rw [List.map_map]
      refine paired_map2 _ fun i m => ?_
      show vs.getD i Value.none = Value.ref (ps.getD i (0, Str.empty, 0)).1
      rw [← hvs, List.getD_eq_getElem?_getD, List.getElem?_map, List.getElem?_eq_getElem (mem i m), List.getD_eq_getElem?_getD, List.getElem?_eq_getElem (mem i m)]
      rfl
    · have e : (List.range vs.length).map (fun i => ps.getD i (0, Str.empty, 0)) = ps := by
        apply List.ext_getElem
        · simp [lI]
        · intro i h1 h2
          simp [h2]
      exact (hq.map _).trans (by rw [e])
    · refine List.pairwise_iff_getElem.mpr fun i j h1 h2 hij => ?_
      have n1 : i < vs.length := by rw [List.length_map, Array.length_toList, hq.size] at h1; exact h1
      have n2 : j < vs.length := by rw [List.length_map, Array.length_toList, hq.size] at h2; exact h2
      have le := hs i j (Nat.le_of_lt hij) n2
      have ne : gk (rkG lt2 ps (0, Str.empty, 0)) qa i ≠ gk (rkG lt2 ps (0, Str.empty, 0)) qa j := fun e => Nat.ne_of_lt hij (hq.ne inj n1 n2 e)
      have lt : rkG lt2 ps (0, Str.empty, 0) (qa.getD i 0) < rkG lt2 ps (0, Str.empty, 0) (qa.getD j 0) := Nat.lt_of_le_of_ne le ne
      have m1 : qa.getD i 0 < ps.length := by rw [← lI]; exact hq.lt n1
      have m2 : qa.getD j 0 < ps.length := by rw [← lI]; exact hq.lt n2
      have lt2 := rkG_iff lt2_trans lt2_irr tot m1 m2 (hq.dif n1 n2 (Nat.ne_of_lt hij))
      rw [decide_eq_true lt] at lt2
      have z1 : i < qa.size := by rw [hq.size]; exact n1
      have z2 : j < qa.size := by rw [hq.size]; exact n2
      rw [List.getElem_map, List.getElem_map, Array.getElem_toList, Array.getElem_toList, ← getD_get z1, ← getD_get z2]
      exact lt2.symm
end
theorem comp_valF3 {n : Nat} {val : Nat → V} {k : Nat} {g : TG} {tf : TT} {te : TE} {σ : St} {H : Hp} {Q : VK} (J : Nat → List V → Hp → Prop) (j0 : J 0 [] H) (hn : ∀ i ys H', J i ys H' → ys.length ≤ i) (hl : n ≤ sizeLine)
    (hs : ∀ i ys H', i < n → J i ys H' → g (val i) (List.replicate k none ++ σ) H' fun σ4 H4 => σ4.drop k = σ ∧ tf σ4 H4 fun b H5 => if b = true then te σ4 H5 fun y H6 => J (i + 1) (ys ++ [y]) H6 else J (i + 1) ys H5)
    (hd : ∀ ys H', J n ys H' → NewL Q ys H') :
    ∃ W : Nat → Nat → List V → Hp → Prop, (∃ m, W 0 m [] H) ∧ ∀ i m ys H2, W i m ys H2 →
      ((Itv n val).stop i H2 ∧ NewL Q ys H2) ∨
      ((Itv n val).go i H2 ∧ ys.length < sizeLine ∧ ∀ x H3, (Itv n val).yld i H2 x H3 → g x (List.replicate k none ++ σ) H3 fun σ4 H4 => σ4.drop k = σ ∧ tf σ4 H4 fun b H5 =>
        if b = true then te σ4 H5 fun y H6 => ∃ m', m' < m ∧ W (i + 1) m' (ys ++ [y]) H6 else ∃ m', m' < m ∧ W (i + 1) m' ys H5) := by
  refine ⟨fun i m ys H2 => m = n - i ∧ i ≤ n ∧ J i ys H2, ⟨n, by simp, Nat.zero_le _, j0⟩, ?_⟩
  rintro i m ys H2 ⟨rfl, hi, jj⟩
  by_cases hlt : i < n
  · refine .inr ⟨hlt, ?_, fun x H3 y => ?_⟩
    · have := hn i ys H2 jj
      omega
    · obtain ⟨e, y⟩ := y
      subst e y
      have h := hs i ys _ hlt jj
      have key : ∀ zs H6, J (i + 1) zs H6 = ∃ m', m' < n - i ∧ m' = n - (i + 1) ∧ i + 1 ≤ n ∧ J (i + 1) zs H6 := fun zs H6 => propext ⟨fun z => ⟨n - (i + 1), by omega, rfl, hlt, z⟩, fun ⟨_, _, _, _, z⟩ => z⟩
      have fe : (fun (b : Bool) (H5 : Hp) (σ4 : St) => if b = true then te σ4 H5 (fun y H6 => J (i + 1) (ys ++ [y]) H6) else J (i + 1) ys H5) = fun b H5 σ4 => if b = true then te σ4 H5 (fun y H6 => ∃ m', m' < n - i ∧ m' = n - (i + 1) ∧ i + 1 ≤ n ∧ J (i + 1) (ys ++ [y]) H6) else ∃ m', m' < n - i ∧ m' = n - (i + 1) ∧ i + 1 ≤ n ∧ J (i + 1) ys H5 := by
        funext b H5 σ4
        rw [← key ys H5]
        congr 2
        funext y H6
        exact key _ _
      have fe' : ∀ b H5 σ4, (if b = true then te σ4 H5 (fun y H6 => J (i + 1) (ys ++ [y]) H6) else J (i + 1) ys H5) = if b = true then te σ4 H5 (fun y H6 => ∃ m', m' < n - i ∧ m' = n - (i + 1) ∧ i + 1 ≤ n ∧ J (i + 1) (ys ++ [y]) H6) else ∃ m', m' < n - i ∧ m' = n - (i + 1) ∧ i + 1 ≤ n ∧ J (i + 1) ys H5 := fun b H5 σ4 => congrFun (congrFun (congrFun fe b) H5) σ4
      simp only [fe'] at h
      exact h
  · have e : i = n := by omega
    subst e
    exact .inl ⟨Nat.le_refl _, hd ys H2 jj⟩
end L2

namespace K51
open PySem L2
def top (i : Nat) : Stmt := PySem.Challenge.pw_bellbook_k51_nets.main.body.getD i (.Pass ⟨0, 0, 0, 0⟩)
structure Bl (mg : Str → Option Value) : Prop where
  b_bool : mg "bool" = none
  b_int : mg "int" = none
  b_isinstance : mg "isinstance" = none
  b_len : mg "len" = none
  b_list : mg "list" = none
  b_max : mg "max" = none
  b_min : mg "min" = none
  b_range : mg "range" = none
  b_sorted : mg "sorted" = none
  b_str : mg "str" = none
  b_sum : mg "sum" = none
  b_tuple : mg "tuple" = none
structure Co (mg : Str → Option Value) where
set_option genInjectivity false in
set_option genSizeOf false in
structure Er (K : PySem.W.Frag) (mg : Str → Option Value) where
local macro_rules | `(tactic| walk_at "sz") => `(tactic| first | exact szOk (Nat.le_of_ble_eq_true rfl) | exact szLt (Nat.le_of_ble_eq_true rfl) | omega)
local macro_rules | `(tactic| walk_at "hp") => `(tactic| first | assumption | exact upd_same | (refine at_upd ?_ ?_ <;> walk_at "hp"))
local macro_rules | `(tactic| walk_at "sq") => `(tactic| first | assumption | exact .inl (.inl upd_same) | (refine sq_upd ?_ ?_ <;> first | walk_at "sq" | walk_at "hp"))
local macro_rules | `(tactic| walk_at "side") => `(tactic| first | (show (0 : Int) < _; decide) | exact ⟨by decide, by decide⟩ | exact ⟨by decide, by decide, by decide⟩ | exact .inl ⟨by decide, by decide⟩ | exact .inr ⟨by decide, by decide⟩ | omega)
local macro_rules | `(tactic| walk_at "rd1") => `(tactic| first
  | (refine ⟨_, rfl, ?_⟩)
  | (refine ⟨_, _, rfl, rfl, ?_⟩)
  | (refine ⟨rfl, ?_⟩)
  | (refine ⟨_, _, rfl, rfl, by walk_at "side", ?_⟩))
local macro_rules | `(tactic| walk_at "rd") => `(tactic| repeat walk_at "rd1")

structure Od where
  n : Str
  w : Str
  s : Str
  pr : Int
  l : Int
  sh : Int
  pk : Int
def odV (o : Od) : List V := [.str o.n, .str o.w, .str o.s, .int o.pr, .int o.l, .int o.sh, .int o.pk]
abbrev AO := Addr × Od
def rf (p : AO) : V := .ref p.1
def Ords (H : Hp) (ps : List AO) : Prop := ∀ p ∈ ps, H p.1 = some (.tup (odV p.2))
theorem Ords.same {H H' : Hp} {ps : List AO} (h : Ords H ps) (s : Same H H') : Ords H' ps := fun p hp => s _ _ (h p hp)
theorem Ords.upd {H : Hp} {ps : List AO} {l : Addr} {xs : List V} {u : HO} (h : Ords H ps) (hl : H l = some (.lst xs)) : Ords (upd H l u) ps := fun p hp => upd_tup (h p hp) hl
theorem Ords.app {H : Hp} {ps qs : List AO} (h : Ords H ps) (h2 : Ords H qs) : Ords H (ps ++ qs) := fun p hp => (List.mem_append.mp hp).elim (h p) (h2 p)
theorem at_ords {ps : List AO} {i : Int} (h0 : 0 ≤ i) (h1 : i < ps.length) : ∃ x ∈ ps, atI (ps.map rf) i = some (rf x) := by
  obtain ⟨k, rfl⟩ := Int.eq_ofNat_of_zero_le h0
  have hk : k < ps.length := by omega
  exact ⟨ps[k], List.getElem_mem hk, atI_nat (by rw [List.getElem?_map, List.getElem?_eq_getElem hk]; rfl)⟩
theorem get_rf {ps : List AO} {i : Nat} {x : V} (h : (ps.map rf)[i]? = some x) : ∃ p, x = rf p ∧ ps[i]? = some p ∧ p ∈ ps := by
  rw [List.getElem?_map] at h
  cases e : ps[i]? with
  | none => rw [e] at h; cases h
  | some n => rw [e] at h; exact ⟨n, (Option.some.inj h).symm, rfl, List.mem_of_getElem? e⟩
theorem at_row {z : Str} {i : Int} (h0 : 0 ≤ i) (h1 : i < (z.cps.size : Int)) : ∃ c, atI z.cps.toList i = some c := by
  obtain ⟨k, rfl⟩ := Int.eq_ofNat_of_zero_le h0
  have hk : k < z.cps.toList.length := by rw [Array.length_toList]; omega
  exact ⟨_, atI_nat (List.getElem?_eq_getElem hk)⟩
theorem one_sz (c : Nat) : (Str.mk #[c]).length = 1 := rfl
def aheadB (s : Str) (p o : Int) : Bool := if s = "buy" then decide (o < p) else decide (p < o)

def LET : Str := "abcdefghijklmnopqrstuvwxyz"
def FIG : Str := "0123456789"
theorem let_sz : LET.cps.size = 26 := by decide +kernel
theorem sgs_sz : (LET ++ FIG).cps.size = 36 := by decide +kernel
theorem let_ok : LET.length ≤ sizeLine := szOk (by show LET.cps.size ≤ _; rw [let_sz]; decide)
theorem sgs_ok : (LET ++ FIG).length ≤ sizeLine := szOk (by show (LET ++ FIG).cps.size ≤ _; rw [sgs_sz]; decide)
def sgnAt (seed : Int) (i : Nat) : Str := ⟨#[(LET ++ FIG).cps.getD ((seed + 7 * (1 + (i : Int))) % 36).toNat 0]⟩
theorem at_sgn2 {z : Str} {i : Int} (h0 : 0 ≤ i) (h1 : i < (z.cps.size : Int)) : atI z.cps.toList i = some (z.cps.getD i.toNat 0) := by
  obtain ⟨k, rfl⟩ := Int.eq_ofNat_of_zero_le h0
  have hk : k < z.cps.size := by omega
  refine atI_nat ?_
  rw [Array.getElem?_toList, Array.getElem?_eq_getElem hk, Array.getD_eq_getD_getElem?]
  simp [hk]
theorem atL2 {x y : V} {i : Int} (h : i = 0 ∨ i = 1) : ∃ v, atI [x, y] i = some v ∧ (v = x ∨ v = y) := by
  rcases h with e | e
  · exact ⟨x, by rw [e]; rfl, .inl rfl⟩
  · exact ⟨y, by rw [e]; rfl, .inr rfl⟩
/-- a size that an order in line may have -/
def Szd (l sh pk : Int) : Prop := 1 ≤ sh ∧ sh ≤ l ∧ l ≤ 1000000000 ∧ 0 ≤ pk ∧ (pk = 0 → sh = l) ∧ (pk ≠ 0 → sh ≤ pk)

def place (s : Str) (p : Int) : List AO → Nat
  | [] => 0
  | x :: r => if aheadB s p x.2.pr = true then 0 else place s p r + 1
theorem place_le (s : Str) (p : Int) : ∀ ps : List AO, place s p ps ≤ ps.length
  | [] => Nat.le_refl _
  | x :: r => by
    unfold place
    have := place_le s p r
    rw [List.length_cons]
    split <;> omega
theorem place_step (s : Str) (p : Int) : ∀ (ps : List AO) (k : Nat) (x : AO), ps[k]? = some x → k ≤ place s p ps → (aheadB s p x.2.pr = false → k + 1 ≤ place s p ps) ∧ (aheadB s p x.2.pr = true → k = place s p ps)
  | [], _, _, h, _ => by cases h
  | y :: r, 0, x, h, _ => by
    have e : y = x := Option.some.inj h
    subst e
    unfold place
    constructor
    · intro h; rw [if_neg (by rw [h]; exact Bool.false_ne_true)]; omega
    · intro h; rw [if_pos h]
  | y :: r, k + 1, x, h, hk => by
    have h' : r[k]? = some x := h
    unfold place at hk ⊢
    by_cases c : aheadB s p y.2.pr = true
    · rw [if_pos c] at hk; omega
    · rw [if_neg c] at hk ⊢
      obtain ⟨a, b⟩ := place_step s p r k x h' (by omega)
      exact ⟨fun z => by have := a z; omega, fun z => by have := b z; omega⟩
def ins (x : AO) (ps : List AO) : List AO := ps.take (place x.2.s x.2.pr ps) ++ x :: ps.drop (place x.2.s x.2.pr ps)
theorem mem_ins {x y : AO} {ps : List AO} (h : y ∈ ins x ps) : y = x ∨ y ∈ ps := by
  rcases List.mem_append.mp h with h | h
  · exact .inr (List.mem_of_mem_take h)
  · rcases List.mem_cons.mp h with h | h
    · exact .inl h
    · exact .inr (List.mem_of_mem_drop h)
theorem ins_len (x : AO) (ps : List AO) : (ins x ps).length = ps.length + 1 := by
  unfold ins
  have := place_le x.2.s x.2.pr ps
  rw [List.length_append, List.length_cons, List.length_take, List.length_drop]
  omega
theorem cut_take (ps : List AO) {k : Nat} (hk : k ≤ ps.length) : cutV (ps.map rf) none (some (k : Int)) = (ps.take k).map rf := by
  unfold cutV
  have h1 : HT.sIx (ps.map rf).length 0 none = 0 := rfl
  have h2 : HT.sIx (ps.map rf).length (ps.map rf).length (some (k : Int)) = k := by
    rw [List.length_map, HT.sIx_nat]; omega
  rw [h1, h2, List.drop_zero, Nat.sub_zero, List.map_take]
theorem cut_drop (ps : List AO) {k : Nat} (hk : k ≤ ps.length) : cutV (ps.map rf) (some (k : Int)) none = (ps.drop k).map rf := by
  unfold cutV
  have h1 : HT.sIx (ps.map rf).length (ps.map rf).length none = ps.length := by rw [List.length_map]; rfl
  have h2 : HT.sIx (ps.map rf).length 0 (some (k : Int)) = k := by
    rw [List.length_map, HT.sIx_nat]; omega
  rw [h1, h2, List.map_drop]
  exact List.take_of_length_le (by rw [List.length_drop, List.length_map]; omega)
def absI (i : Int) : Int := if i < 0 then -i else i
def lookS (o x : Od) (last leap : Int) : Str := if aheadB o.s x.pr o.pr = true then "end" else if x.w = o.w then "shun" else if leap < absI (x.pr - last) then "halt" else "trade"
def reachL (o : Od) (last leap : Int) : List AO → Int
  | [] => 0
  | x :: r => if aheadB o.s x.2.pr o.pr = true then 0 else if x.2.w = o.w then reachL o last leap r else if leap < absI (x.2.pr - last) then 0 else x.2.l + reachL o last leap r
theorem reach_at {o : Od} {last leap : Int} {ps : List AO} {i : Nat} {x : AO} (h : ps[i]? = some x) : reachL o last leap (ps.drop i) = if aheadB o.s x.2.pr o.pr = true then 0 else if x.2.w = o.w then reachL o last leap (ps.drop (i + 1)) else if leap < absI (x.2.pr - last) then 0 else x.2.l + reachL o last leap (ps.drop (i + 1)) := by
  obtain ⟨hi, e⟩ := List.getElem?_eq_some_iff.mp h
  rw [List.drop_eq_getElem_cons hi, e]
  rfl
theorem in_end : inV (.str "end") [V.str "end", V.str "halt"] = true := by decide +kernel
theorem in_halt : inV (.str "halt") [V.str "end", V.str "halt"] = true := by decide +kernel
theorem in_shun : inV (.str "shun") [V.str "end", V.str "halt"] = false := by decide +kernel
theorem in_trade : inV (.str "trade") [V.str "end", V.str "halt"] = false := by decide +kernel
theorem shun_ne : ¬ (V.str "shun" = V.str "trade") := by decide +kernel

def plainV : V → Bool
  | .str _ => true
  | .int _ => true
  | _ => false
def sr (s : Addr × List V) : V := .ref s.1
def Rws (H : Hp) (ss : List (Addr × List V)) : Prop := ∀ s ∈ ss, H s.1 = some (.tup s.2)

theorem slice_to {x : Str} {j : Int} (h0 : 0 ≤ j) (h1 : j ≤ (x.length : Int)) : Txt.slice x none (some j) = ⟨(x.cps.toList.take j.toNat).toArray⟩ := by
  have e : x.cps.toList.length = x.length := Array.length_toList
  have := eq_of_beq (PyProof.Rows.slice_closes_to (x := x) (j := j) ⟨h0, by rw [e]; exact h1⟩)
  rw [this, Int.toNat_zero, List.drop_zero, Int.sub_zero]
theorem name_at {W : Str} {a b : Int} {c : Nat} {B : Str} (hW : W.length = 12) (ha : 0 ≤ a) (hb : 0 ≤ b) (hab : a + b ≤ 12) : ((Txt.slice (Txt.slice W none (some (a + b))) none (some a) ++ Str.mk #[c]) ++ B).cps.toList[a.toNat]? = some c := by
  have e1 : (Txt.slice W none (some (a + b))).length = (a + b).toNat := by
    rw [slice_to (by omega) (by omega)]
    show (List.take _ _).toArray.size = _
    rw [List.size_toArray, List.length_take, Array.length_toList]
    have : W.cps.size = 12 := hW
    omega
  have e2 : (Txt.slice (Txt.slice W none (some (a + b))) none (some a)).cps.toList.length = a.toNat := by
    rw [slice_to (by omega) (by omega)]
    show (List.take _ _).toArray.toList.length = _
    rw [List.length_take, Array.length_toList]
    have : (Txt.slice W none (some (a + b))).cps.size = (a + b).toNat := e1
    omega
  rw [PyProof.Rows.cps_toList_append, PyProof.Rows.cps_toList_append, List.append_assoc, List.getElem?_append_right (by omega), e2, Nat.sub_self]
  rfl
theorem let_inj : ((List.range 26).all fun i => (List.range 26).all fun j => !decide (LET.cps.getD i 0 = LET.cps.getD j 0) || decide (i = j)) = true := by decide +kernel
def Tell (a : Int) (z : Str) (k : Nat) : Prop := z.cps.toList[(a % 12).toNat]? = some (LET.cps.getD k 0)
theorem tell_ne {a : Int} {z y : Str} {j k : Nat} (h1 : Tell a z j) (h2 : Tell a y k) (hj : j < 26) (hk : k < 26) (hne : j ≠ k) : z ≠ y := by
  rintro rfl
  have e : LET.cps.getD j 0 = LET.cps.getD k 0 := Option.some.inj (h1.symm.trans h2)
  have m1 := List.all_eq_true.mp (List.all_eq_true.mp let_inj j (List.mem_range.mpr hj)) k (List.mem_range.mpr hk)
  rw [e] at m1
  simp at m1
  exact hne m1
abbrev TD := Addr × Str × Str × Int
def rd (p : TD) : V := .ref p.1
def ky (p : TD) : List Str := [p.2.1, p.2.2.1]
def Tds (H : Hp) (ps : List TD) : Prop := ∀ p ∈ ps, H p.1 = some (.tup [.str p.2.1, .str p.2.2.1, .int p.2.2.2])
theorem Tds.same {H H' : Hp} {ps : List TD} (h : Tds H ps) (s : Same H H') : Tds H' ps := fun p hp => s _ _ (h p hp)
def L2t (x y : List Str) : Prop := HT.lexLtS x y = true
theorem lt2 (a b c d : Str) : L2t [a, b] [c, d] ↔ (a ≠ c ∧ keyL a < keyL c) ∨ (a = c ∧ b ≠ d ∧ keyL b < keyL d) := by
  unfold L2t
  rw [HT.lexLtS_cons]
  by_cases e : a = c
  · rw [if_pos e, HT.lexLtS_cons]
    by_cases f : b = d
    · rw [if_pos f, HT.lexLtS_nil_nil]
      simp [e, f]
    · rw [if_neg f]
      simp only [e, f, ne_eq, not_true_eq_false, false_and, not_false_eq_true, true_and, false_or, decide_eq_true_eq]
      exact Iff.rfl
  · rw [if_neg e]
    simp only [e, ne_eq, not_false_eq_true, true_and, false_and, or_false, decide_eq_true_eq]
    exact Iff.rfl
theorem lt2_trans {a b c d e f : Str} (h1 : L2t [a, b] [c, d]) (h2 : L2t [c, d] [e, f]) : L2t [a, b] [e, f] := by
  rw [lt2] at *
  have irr : ∀ x : Str, ¬ keyL x < keyL x := fun x => List.lt_irrefl _
  rcases h1 with ⟨n1, l1⟩ | ⟨rfl, n1, l1⟩
  · rcases h2 with ⟨n2, l2⟩ | ⟨rfl, n2, l2⟩
    · have t := List.lt_trans l1 l2
      exact .inl ⟨fun z => irr e (by rw [z] at t; exact t), t⟩
    · exact .inl ⟨n1, l1⟩
  · rcases h2 with ⟨n2, l2⟩ | ⟨rfl, n2, l2⟩
    · exact .inl ⟨n2, l2⟩
    · have t := List.lt_trans l1 l2
      exact .inr ⟨rfl, fun z => irr f (by rw [z] at t; exact t), t⟩
def Bsr (ps : List TD) : Prop := ps.Pairwise fun p q => L2t (ky p) (ky q)
theorem bsr_lo {ps : List TD} (h : Bsr ps) {m : Nat} {x : TD} (hm : ps[m]? = some x) {d c : Str} (hx : L2t (ky x) [d, c]) : ∀ p ∈ ps.take (m + 1), L2t (ky p) [d, c] := fun p hp => by
  obtain ⟨lm, em⟩ := List.getElem?_eq_some_iff.mp hm
  obtain ⟨j, hj⟩ := List.getElem?_of_mem hp
  rw [List.getElem?_take] at hj
  by_cases lj : j < m + 1
  · rw [if_pos lj] at hj
    obtain ⟨l2, ej⟩ := List.getElem?_eq_some_iff.mp hj
    by_cases e : j = m
    · subst e
      rw [hm] at hj
      cases hj
      exact hx
    · have := List.pairwise_iff_getElem.mp h j m l2 lm (by omega)
      rw [ej, em] at this
      exact lt2_trans this hx
  · rw [if_neg lj] at hj; cases hj
theorem bsr_hi {ps : List TD} (h : Bsr ps) {m : Nat} {x : TD} (hm : ps[m]? = some x) {d c : Str} (hx : ¬ L2t (ky x) [d, c]) : ∀ p ∈ ps.drop m, ¬ L2t (ky p) [d, c] := fun p hp z => by
  obtain ⟨lm, em⟩ := List.getElem?_eq_some_iff.mp hm
  obtain ⟨j, hj⟩ := List.getElem?_of_mem hp
  rw [List.getElem?_drop] at hj
  obtain ⟨l2, ej⟩ := List.getElem?_eq_some_iff.mp hj
  by_cases e : j = 0
  · subst e
    rw [Nat.add_zero, hm] at hj
    cases hj
    exact hx z
  · have := List.pairwise_iff_getElem.mp h m (m + j) lm l2 (by omega)
    rw [ej, em] at this
    exact hx (lt2_trans this z)
structure At (ps : List TD) (d c : Str) (k : Nat) : Prop where
  le : k ≤ ps.length
  lo : ∀ p ∈ ps.take k, L2t (ky p) [d, c]
  hi : ∀ p ∈ ps.drop k, ¬ L2t (ky p) [d, c]
theorem lt2_irr (a b : Str) : ¬ L2t [a, b] [a, b] := by
  rw [lt2]
  rintro (⟨h, _⟩ | ⟨_, h, _⟩) <;> exact h rfl
theorem at_lt {ps : List TD} {d c : Str} {k j : Nat} (h1 : At ps d c k) (h2 : At ps d c j) : ¬ k < j := fun l => by
  have lk : k < ps.length := by have := h2.le; omega
  have m1 : ps[k] ∈ ps.take j := List.mem_of_getElem? (i := k) (by rw [List.getElem?_take, if_pos l, List.getElem?_eq_getElem lk])
  have m2 : ps[k] ∈ ps.drop k := List.mem_of_getElem? (i := 0) (by rw [List.getElem?_drop, Nat.add_zero, List.getElem?_eq_getElem lk])
  exact h1.hi _ m2 (h2.lo _ m1)
theorem at_uniq {ps : List TD} {d c : Str} {k j : Nat} (h1 : At ps d c k) (h2 : At ps d c j) : k = j := by
  have a := at_lt h1 h2
  have b := at_lt h2 h1
  omega
/-- where the key stands, if it does: at the place -/
theorem at_key {ps : List TD} {d c : Str} {k : Nat} (hs : Bsr ps) (h : At ps d c k) {x : TD} (m : x ∈ ps) (e : ky x = [d, c]) : ps[k]? = some x := by
  obtain ⟨j, hj⟩ := List.getElem?_of_mem m
  have nx : ¬ L2t (ky x) [d, c] := by rw [e]; exact lt2_irr d c
  have aj : At ps d c j := by
    obtain ⟨lj, ej⟩ := List.getElem?_eq_some_iff.mp hj
    refine ⟨by omega, fun p hp => ?_, bsr_hi hs hj nx⟩
    obtain ⟨i, hi⟩ := List.getElem?_of_mem hp
    rw [List.getElem?_take] at hi
    by_cases li : i < j
    · rw [if_pos li] at hi
      obtain ⟨l2, ei⟩ := List.getElem?_eq_some_iff.mp hi
      have := List.pairwise_iff_getElem.mp hs i j l2 lj li
      rw [ei, ej, e] at this
      exact this
    · rw [if_neg li] at hi; cases hi
  rw [at_uniq h aj]
  exact hj
def theDue (ps : List TD) (d c : Str) (k : Nat) : List TD := ((ps.drop k).take 1).filter fun p => decide (ky p = [d, c])
theorem due_one {ps : List TD} {d c : Str} {k : Nat} (hs : Bsr ps) (h : At ps d c k) : (theDue ps d c k = [] ∧ ∀ p ∈ ps, ky p ≠ [d, c]) ∨ ∃ x, theDue ps d c k = [x] ∧ ps[k]? = some x ∧ ky x = [d, c] := by
  unfold theDue
  cases hk : ps[k]? with
  | none =>
    left
    have : ps.drop k = [] := List.drop_eq_nil_of_le (List.getElem?_eq_none_iff.mp hk)
    refine ⟨by rw [this]; rfl, fun p hp e => ?_⟩
    rw [at_key hs h hp e] at hk; cases hk
  | some x =>
    obtain ⟨lk, ek⟩ := List.getElem?_eq_some_iff.mp hk
    have e1 : (ps.drop k).take 1 = [x] := by rw [List.drop_eq_getElem_cons lk, ek]; rfl
    rw [e1]
    by_cases e : ky x = [d, c]
    · right
      exact ⟨x, by rw [List.filter_cons_of_pos (by simpa using e)]; rfl, rfl, e⟩
    · left
      refine ⟨by rw [List.filter_cons_of_neg (by simpa using e)]; rfl, fun p hp e2 => ?_⟩
      rw [at_key hs h hp e2] at hk
      cases hk
      exact e e2
theorem cutG_one {α : Type} (f : α → V) (ps : List α) {k : Nat} (hk : k ≤ ps.length) : cutV (ps.map f) (some (k : Int)) (some ((k : Int) + 1)) = ((ps.drop k).take 1).map f := by
  unfold cutV
  have h1 : HT.sIx (ps.map f).length (ps.map f).length (some ((k : Int) + 1)) = min (k + 1) ps.length := by
    rw [List.length_map, show (k : Int) + 1 = ((k + 1 : Nat) : Int) by omega, HT.sIx_nat]
  have h2 : HT.sIx (ps.map f).length 0 (some (k : Int)) = k := by
    rw [List.length_map, HT.sIx_nat]; omega
  rw [h1, h2, List.map_take, List.map_drop]
  rcases Nat.lt_or_ge k ps.length with l | l
  · rw [show min (k + 1) ps.length - k = 1 by omega]
  · rw [List.drop_eq_nil_of_le (by rw [List.length_map]; exact l), List.take_nil, List.take_nil]
theorem eqK (a b d c : Str) : eqVs [V.str a, V.str b] [V.str d, V.str c] = decide ([a, b] = [d, c]) := by
  by_cases e : a = d <;> by_cases f : b = c <;> simp [eqVs, eqV, e, f]
def vD (ps : List TD) : List (Str × Str × Int) := ps.map (·.2)
theorem lt2_tot {x : TD} {d c : Str} (h : ¬ L2t (ky x) [d, c]) (n : ky x ≠ [d, c]) : L2t [d, c] (ky x) := by
  unfold ky at *
  rw [lt2] at *
  have tri : ∀ a b : Str, a ≠ b → ¬ keyL a < keyL b → keyL b < keyL a := fun a b ne nl => by
    by_cases d : keyL b < keyL a
    · exact d
    · exact absurd (keyL_inj (List.le_antisymm (List.not_lt.mp d) (List.not_lt.mp nl))) ne
  by_cases e : x.2.1 = d
  · refine .inr ⟨e.symm, ?_, ?_⟩
    · intro z; exact n (by rw [e, z])
    · refine tri _ _ (fun z => n (by rw [e, z])) fun l => h (.inr ⟨e, fun z => n (by rw [e, z]), l⟩)
  · exact .inl ⟨fun z => e z.symm, tri _ _ e fun l => h (.inl ⟨e, l⟩)⟩
structure Wd (ps qs : List TD) (d c : Str) (am : Int) : Prop where
  srt : Bsr qs
  len : qs.length ≤ ps.length + 1
  mem : ∀ v : Str × Str × Int, v ∈ vD qs ↔ ((¬ (v.1 = d ∧ v.2.1 = c) ∧ v ∈ vD ps) ∨ (v = (d, c, am) ∧ 0 < am))
theorem ky_iff (p : TD) (d c : Str) : ky p = [d, c] ↔ p.2.1 = d ∧ p.2.2.1 = c := by unfold ky; simp
theorem mk_wd {ps : List TD} {d c : Str} {k : Nat} (hs : Bsr ps) (h : At ps d c k) (t : Addr) (am : Int) : Wd ps (ps.take k ++ (if 0 < am then [(t, d, c, am)] else []) ++ ps.drop (k + (theDue ps d c k).length)) d c am := by
  have sub : (ps.take k ++ ps.drop (k + (theDue ps d c k).length)).Sublist ps := by
    have := List.Sublist.append (List.Sublist.refl (ps.take k)) (show (ps.drop (k + (theDue ps d c k).length)).Sublist (ps.drop k) by rw [← List.drop_drop]; exact List.drop_sublist _ _)
    rw [List.take_append_drop] at this
    exact this
  have s0 : Bsr (ps.take k ++ ps.drop (k + (theDue ps d c k).length)) := hs.sublist sub
  have lo : ∀ p ∈ ps.take k, L2t (ky p) [d, c] := h.lo
  have hi : ∀ p ∈ ps.drop (k + (theDue ps d c k).length), L2t [d, c] (ky p) ∧ ky p ≠ [d, c] := fun p hp => by
    have m : p ∈ ps.drop k := by rw [← List.drop_drop] at hp; exact List.mem_of_mem_drop hp
    have ne : ky p ≠ [d, c] := fun e => by
      have e1 := at_key hs h (List.mem_of_mem_drop m) e
      rcases due_one hs h with ⟨_, no⟩ | ⟨x, hx, hk, _⟩
      · exact no p (List.mem_of_mem_drop m) e
      · rw [e1] at hk
        cases hk
        rw [hx] at hp
        obtain ⟨j, hj⟩ := List.getElem?_of_mem hp
        rw [List.getElem?_drop] at hj
        obtain ⟨l1, ee1⟩ := List.getElem?_eq_some_iff.mp e1
        obtain ⟨l2, ee2⟩ := List.getElem?_eq_some_iff.mp hj
        have := List.pairwise_iff_getElem.mp hs k (k + [p].length + j) l1 l2 (by show k < k + 1 + j; omega)
        rw [ee1, ee2, e] at this
        exact lt2_irr d c this
    exact ⟨lt2_tot (h.hi p m) ne, ne⟩
  refine ⟨?_, ?_, fun v => ?_⟩
  · by_cases a0 : 0 < am
    · rw [if_pos a0]
      obtain ⟨p1, p2, p3⟩ := List.pairwise_append.mp s0
      refine List.pairwise_append.mpr ⟨List.pairwise_append.mpr ⟨p1, List.pairwise_singleton _ _, fun x hx y hy => ?_⟩, p2, fun x hx y hy => ?_⟩
      · rw [List.mem_singleton.mp hy]; exact lo x hx
      · rcases List.mem_append.mp hx with hx | hx
        · exact p3 x hx y hy
        · rw [List.mem_singleton.mp hx]; exact (hi y hy).1
    · rw [if_neg a0, List.append_nil]
      exact s0
  · rw [List.length_append, List.length_append, List.length_take, List.length_drop]
    have : (if 0 < am then [(t, d, c, am)] else []).length ≤ 1 := by split <;> simp
    omega
  · have keep : ∀ x ∈ ps, ky x ≠ [d, c] → x ∈ ps.take k ∨ x ∈ ps.drop (k + (theDue ps d c k).length) := fun x hx ne => by
      obtain ⟨j, hj⟩ := List.getElem?_of_mem hx
      by_cases l : j < k
      · exact .inl (List.mem_of_getElem? (i := j) (by rw [List.getElem?_take, if_pos l]; exact hj))
      · right
        rcases due_one hs h with ⟨e0, _⟩ | ⟨y, hy, hk, ey⟩
        · rw [e0]
          exact List.mem_of_getElem? (i := j - k) (by rw [List.getElem?_drop, show k + [].length + (j - k) = j by show k + 0 + _ = _; omega]; exact hj)
        · have : j ≠ k := fun z => by rw [z, hk] at hj; cases hj; exact ne ey
          rw [hy]
          exact List.mem_of_getElem? (i := j - (k + 1)) (by rw [List.getElem?_drop, show k + [y].length + (j - (k + 1)) = j by show k + 1 + _ = _; omega]; exact hj)
    constructor
    · intro m
      obtain ⟨x, hx, rfl⟩ := List.mem_map.mp m
      rcases List.mem_append.mp hx with hx | hx
      · rcases List.mem_append.mp hx with hx | hx
        · refine .inl ⟨fun z => ?_, List.mem_map_of_mem (f := fun p : TD => p.2) (List.mem_of_mem_take hx)⟩
          have := lo x hx
          rw [(ky_iff x d c).mpr z] at this
          exact lt2_irr d c this
        · by_cases a0 : 0 < am
          · rw [if_pos a0] at hx
            rw [List.mem_singleton.mp hx]
            exact .inr ⟨rfl, a0⟩
          · rw [if_neg a0] at hx; cases hx
      · exact .inl ⟨fun z => (hi x hx).2 ((ky_iff x d c).mpr z), List.mem_map_of_mem (f := fun p : TD => p.2) (List.mem_of_mem_drop hx)⟩
    · rintro (⟨n, m⟩ | ⟨rfl, a0⟩)
      · obtain ⟨x, hx, rfl⟩ := List.mem_map.mp m
        refine List.mem_map_of_mem (f := fun p : TD => p.2) ?_
        rcases keep x hx (fun z => n ((ky_iff x d c).mp z)) with k | k
        · exact List.mem_append_left _ (List.mem_append_left _ k)
        · exact List.mem_append_right _ k
      · rw [if_pos a0]
        exact List.mem_map.mpr ⟨(t, d, c, am), List.mem_append_left _ (List.mem_append_right _ List.mem_cons_self), rfl⟩
theorem cutG_take {α : Type} (f : α → V) (ps : List α) {k : Nat} (hk : k ≤ ps.length) : cutV (ps.map f) none (some (k : Int)) = (ps.take k).map f := by
  unfold cutV
  have h1 : HT.sIx (ps.map f).length 0 none = 0 := rfl
  have h2 : HT.sIx (ps.map f).length (ps.map f).length (some (k : Int)) = k := by
    rw [List.length_map, HT.sIx_nat]; omega
  rw [h1, h2, List.drop_zero, Nat.sub_zero, List.map_take]
theorem cutG_drop {α : Type} (f : α → V) (ps : List α) {k : Nat} (hk : k ≤ ps.length) : cutV (ps.map f) (some (k : Int)) none = (ps.drop k).map f := by
  unfold cutV
  have h1 : HT.sIx (ps.map f).length (ps.map f).length none = ps.length := by rw [List.length_map]; rfl
  have h2 : HT.sIx (ps.map f).length 0 (some (k : Int)) = k := by
    rw [List.length_map, HT.sIx_nat]; omega
  rw [h1, h2, List.map_drop]
  exact List.take_of_length_le (by rw [List.length_drop, List.length_map]; omega)
def Amt (ps : List TD) (d c : Str) (A : Int) : Prop := (∃ p ∈ ps, ky p = [d, c] ∧ A = p.2.2.2) ∨ ((∀ p ∈ ps, ky p ≠ [d, c]) ∧ A = 0)
theorem mk_amt {ps : List TD} {d c : Str} {k : Nat} (hs : Bsr ps) (h : At ps d c k) : Amt ps d c ((theDue ps d c k).map fun p => p.2.2.2).sum := by
  rcases due_one hs h with ⟨e, no⟩ | ⟨x, e, hx, ex⟩
  · rw [e]; exact .inr ⟨no, rfl⟩
  · rw [e]
    exact .inl ⟨x, List.mem_of_getElem? hx, ex, by show x.2.2.2 + 0 = _; omega⟩
structure Ow (ps qs : List TD) (d c : Str) (am : Int) : Prop where
  srt : Bsr qs
  len : qs.length ≤ ps.length + 2
  same : d = c ∨ am = 0 → vD qs = vD ps
  diff : d ≠ c → am ≠ 0 → ∃ A B W, Amt ps d c A ∧ Amt ps c d B ∧ W = am + A - B ∧ ∀ v : Str × Str × Int, v ∈ vD qs ↔ ((¬ (v.1 = d ∧ v.2.1 = c) ∧ ¬ (v.1 = c ∧ v.2.1 = d) ∧ v ∈ vD ps) ∨ (v = (d, c, W) ∧ 0 < W) ∨ (v = (c, d, -W) ∧ W < 0))
theorem mk_ow {ps p1 p2 : List TD} {d c : Str} {am A B : Int} (ne : d ≠ c) (hA : Amt ps d c A) (hB : Amt ps c d B) (am0 : am ≠ 0) (w1 : Wd ps p1 d c (am + A - B)) (w2 : Wd p1 p2 c d (-(am + A - B))) : Ow ps p2 d c am := by
  refine ⟨w2.srt, by have := w1.len; have := w2.len; omega, fun z => ?_, fun _ _ => ⟨A, B, _, hA, hB, rfl, fun v => ?_⟩⟩
  · rcases z with z | z
    · exact absurd z ne
    · exact absurd z am0
  · rw [w2.mem, w1.mem]
    constructor
    · rintro (⟨n1, (⟨n2, m⟩ | ⟨e, w⟩)⟩ | ⟨e, w⟩)
      · exact .inl ⟨n2, n1, m⟩
      · exact .inr (.inl ⟨e, w⟩)
      · exact .inr (.inr ⟨e, by omega⟩)
    · rintro (⟨n1, n2, m⟩ | ⟨e, w⟩ | ⟨e, w⟩)
      · exact .inl ⟨n2, .inl ⟨n1, m⟩⟩
      · refine .inl ⟨fun z => ?_, .inr ⟨e, w⟩⟩
        rw [e] at z
        exact ne z.1
      · exact .inr ⟨e, by omega⟩
abbrev DE := Addr × Nat × Nat × Int
def re (p : DE) : V := .ref p.1
def Des (m : Nat) (H : Hp) (ds : List DE) : Prop := ∀ p ∈ ds, H p.1 = some (.tup [.int p.2.1, .int p.2.2.1, .int p.2.2.2]) ∧ p.2.1 < m ∧ p.2.2.1 < m ∧ p.2.1 ≠ p.2.2.1 ∧ 0 ≤ p.2.2.2
theorem cut_map (ns : List Int) (i j : Int) : cutV (ns.map V.int) (some i) (some j) = (((ns.drop (HT.sIx ns.length 0 (some i))).take (HT.sIx ns.length ns.length (some j) - HT.sIx ns.length 0 (some i))).map V.int) := by
  unfold cutV
  rw [List.length_map, List.map_take, List.map_drop]
def nmA (nm : List Str) (i : Nat) : Str := nm.getD i Str.empty
def ni (k : Nat) : V := .int (k : Int)
theorem nmA_get {nm : List Str} {i : Nat} (h : i < nm.length) : nm[i]? = some (nmA nm i) := by
  unfold nmA
  rw [List.getElem?_eq_getElem h, List.getD_eq_getElem?_getD, List.getElem?_eq_getElem h]
  rfl
theorem nmA_inj {nm : List Str} (nd : nm.Nodup) {i j : Nat} (hi : i < nm.length) (hj : j < nm.length) (e : nmA nm i = nmA nm j) : i = j := by
  have h1 := nmA_get hi
  rw [e, ← nmA_get hj] at h1
  exact (List.getElem?_inj hi nd).mp h1
def KLt (nm : List Str) (i j : Nat) : Prop := keyL (nmA nm i) < keyL (nmA nm j)
theorem klt_tot {nm : List Str} (nd : nm.Nodup) {i j : Nat} (hi : i < nm.length) (hj : j < nm.length) (ne : i ≠ j) (h : ¬ KLt nm i j) : KLt nm j i := by
  by_cases d : KLt nm j i
  · exact d
  · exact absurd (nmA_inj nd hi hj (keyL_inj (List.le_antisymm (List.not_lt.mp d) (List.not_lt.mp h)))) ne
theorem srt_ext {α : Type} {R : α → α → Prop} (irr : ∀ a, ¬ R a a) (tr : ∀ a b c, R a b → R b c → R a c) : ∀ (a b : List α), a.Pairwise R → b.Pairwise R → (∀ v, v ∈ a ↔ v ∈ b) → a = b
  | [], [], _, _, _ => rfl
  | [], y :: s, _, _, h => absurd ((h y).mpr List.mem_cons_self) List.not_mem_nil
  | x :: r, [], _, _, h => absurd ((h x).mp List.mem_cons_self) List.not_mem_nil
  | x :: r, y :: s, ha, hb, h => by
    obtain ⟨a1, a2⟩ := List.pairwise_cons.mp ha
    obtain ⟨b1, b2⟩ := List.pairwise_cons.mp hb
    have e : x = y := by
      rcases List.mem_cons.mp ((h x).mp List.mem_cons_self) with z | z
      · exact z
      · rcases List.mem_cons.mp ((h y).mpr List.mem_cons_self) with u | u
        · exact u.symm
        · exact absurd (tr _ _ _ (a1 y u) (b1 x z)) (irr x)
    subst e
    rw [srt_ext irr tr r s a2 b2 fun v => ⟨fun z => ?_, fun z => ?_⟩]
    · rcases List.mem_cons.mp ((h v).mp (List.mem_cons_of_mem _ z)) with u | u
      · rw [u] at z; exact absurd (a1 x z) (irr x)
      · exact u
    · rcases List.mem_cons.mp ((h v).mpr (List.mem_cons_of_mem _ z)) with u | u
      · rw [u] at z; exact absurd (b1 x z) (irr x)
      · exact u
def tdr (p : TD) : Addr × List V := (p.1, [.str p.2.1, .str p.2.2.1, .int p.2.2.2])
theorem tdr_sr (ps : List TD) : (ps.map tdr).map sr = ps.map rd := by rw [List.map_map]; rfl
theorem tdr_v (ps : List TD) : (ps.map tdr).map (·.2) = (vD ps).map fun v => [V.str v.1, V.str v.2.1, V.int v.2.2] := by unfold vD; rw [List.map_map, List.map_map]; rfl
theorem tdr_rws {H : Hp} {ps : List TD} (h : Tds H ps) : Rws H (ps.map tdr) := fun s hs => by
  obtain ⟨p, hp, rfl⟩ := List.mem_map.mp hs
  exact h p hp
theorem tdr_pl (ps : List TD) : ∀ s ∈ ps.map tdr, s.2.all plainV = true ∧ s.2.length ≤ 100 := fun s hs => by
  obtain ⟨x, hx, rfl⟩ := List.mem_map.mp hs
  exact ⟨rfl, Nat.le_of_ble_eq_true rfl⟩
theorem ixN_nat {n j : Nat} (h : j < n) : ixN n (j : Int) = some j := by
  unfold ixN
  rw [if_pos (by omega), if_pos (by omega)]
  rfl
def dI (ps : List (Str × Int)) : List (Key × V) := ps.map fun p => (Sum.inr p.1, V.int p.2)
def hvI (ps : List (Str × Int)) (k : Str) : Int := ((ps.find? fun p => decide (p.1 = k)).map (·.2)).getD 0
def putI (ps : List (Str × Int)) (k : Str) (v : Int) : List (Str × Int) := if (ps.any fun p => decide (p.1 = k)) = true then ps.map (fun p => if p.1 = k then (p.1, v) else p) else ps ++ [(k, v)]
theorem inr_dec (a k : Str) : decide ((Sum.inr a : Key) = Sum.inr k) = decide (a = k) := key_rr a k
theorem dI_find (k : Str) : ∀ ps : List (Str × Int), valV (dI ps) (Sum.inr k) = (ps.find? fun p => decide (p.1 = k)).map fun p => V.int p.2
  | [] => rfl
  | p :: ps => by
    by_cases c : p.1 = k
    · have e : (Sum.inr p.1 : Key) = Sum.inr k := by rw [c]
      rw [List.find?_cons, decide_eq_true c]
      exact valV_pos (p := (Sum.inr p.1, V.int p.2)) (r := dI ps) e
    · have e : ¬ (Sum.inr p.1 : Key) = Sum.inr k := fun z => c (Sum.inr.inj z)
      rw [List.find?_cons, decide_eq_false c]
      exact (valV_neg (p := (Sum.inr p.1, V.int p.2)) (r := dI ps) e).trans (dI_find k ps)
theorem dI_get (ps : List (Str × Int)) (k : Str) : (valV (dI ps) (Sum.inr k)).getD (V.int 0) = V.int (hvI ps k) := by
  rw [dI_find]
  unfold hvI
  cases ps.find? fun p => decide (p.1 = k) <;> rfl
theorem dI_put (ps : List (Str × Int)) (k : Str) (v : Int) : putK (dI ps) (Sum.inr k) (V.int v) = dI (putI ps k v) := by
  unfold putK putI
  have a : ((dI ps).any fun kv => decide (kv.1 = (Sum.inr k : Key))) = ps.any fun p => decide (p.1 = k) := by
    unfold dI
    rw [List.any_map]
    congr 1
    funext p
    exact key_rr p.1 k
  rw [a]
  split
  · unfold dI
    rw [List.map_map, List.map_map]
    apply List.map_congr_left
    intro p _
    show (if (Sum.inr p.1 : Key) = Sum.inr k then ((Sum.inr p.1 : Key), V.int v) else (Sum.inr p.1, V.int p.2)) = (Sum.inr (if p.1 = k then (p.1, v) else p).1, V.int (if p.1 = k then (p.1, v) else p).2)
    by_cases c : p.1 = k
    · rw [if_pos (by rw [c]), if_pos c]
    · rw [if_neg (fun z => c (Sum.inr.inj z)), if_neg c]
  · unfold dI
    rw [List.map_append]
    rfl
theorem hv_mem : ∀ {ps : List (Str × Int)} {p : Str × Int}, (ps.map (·.1)).Nodup → p ∈ ps → hvI ps p.1 = p.2
  | q :: ps, p, nd, m => by
    have nd' := List.nodup_cons.mp nd
    unfold hvI
    rcases List.mem_cons.mp m with rfl | m
    · rw [List.find?_cons, decide_eq_true rfl]
      rfl
    · have ne : ¬ q.1 = p.1 := fun e => nd'.1 (by show q.1 ∈ _; rw [e]; exact List.mem_map_of_mem (f := fun x : Str × Int => x.1) m)
      rw [List.find?_cons, decide_eq_false ne]
      exact hv_mem nd'.2 m
theorem dI_val {ps : List (Str × Int)} {p : Str × Int} (nd : (ps.map (·.1)).Nodup) (m : p ∈ ps) : valV (dI ps) (Sum.inr p.1) = some (V.int p.2) := by
  have h := hv_mem nd m
  rw [dI_find]
  unfold hvI at h
  cases e : ps.find? fun q => decide (q.1 = p.1) with
  | none => exact absurd (decide_eq_true rfl) (List.find?_eq_none.mp e p m)
  | some q =>
    rw [e] at h
    have h' : q.2 = p.2 := h
    show some (V.int q.2) = _
    rw [h']
theorem dI_none {ps : List (Str × Int)} {z : Str} (m : z ∉ ps.map (·.1)) : valV (dI ps) (Sum.inr z) = none := by
  have e : (ps.find? fun p => decide (p.1 = z)) = none := List.find?_eq_none.mpr fun q hq c => m (by
    have e : q.1 = z := of_decide_eq_true c
    rw [← e]
    exact List.mem_map_of_mem (f := fun x : Str × Int => x.1) hq)
  rw [dI_find, e]
  rfl
theorem dI_new {ps : List (Str × Int)} {z : Str} (v : Int) (m : z ∉ ps.map (·.1)) : putK (dI ps) (Sum.inr z) (V.int v) = dI (ps ++ [(z, v)]) := by
  rw [dI_put]
  unfold putI
  rw [if_neg fun c => ?_]
  obtain ⟨q, hq, e⟩ := List.any_eq_true.mp c
  have e' : q.1 = z := of_decide_eq_true e
  refine m ?_
  rw [← e']
  exact List.mem_map_of_mem (f := fun x : Str × Int => x.1) hq
def dS (ps : List Str) : List (Key × V) := ps.map fun s => (Sum.inr s, V.bl true)
theorem dS_none : ∀ {ps : List Str} {z : Str}, z ∉ ps → valV (dS ps) (Sum.inr z) = none
  | [], _, _ => rfl
  | p :: ps, z, m => by
    have e : ¬ (Sum.inr p : Key) = Sum.inr z := fun h => m (by rw [Sum.inr.inj h]; exact List.mem_cons_self)
    exact (valV_neg (p := (Sum.inr p, V.bl true)) (r := dS ps) e).trans (dS_none (ps := ps) fun h => m (List.mem_cons_of_mem _ h))
theorem dS_new {ps : List Str} {z : Str} (m : z ∉ ps) : putK (dS ps) (Sum.inr z) (V.bl true) = dS (ps ++ [z]) := by
  unfold putK
  rw [if_neg fun c => ?_]
  · unfold dS; rw [List.map_append]; rfl
  · obtain ⟨q, hq, e⟩ := List.any_eq_true.mp c
    obtain ⟨s, hs, rfl⟩ := List.mem_map.mp hq
    have : (Sum.inr s : Key) = Sum.inr z := of_decide_eq_true e
    have e' : s = z := Sum.inr.inj this
    rw [← e'] at m
    exact m hs
/-! ## nets -/
def nR (z : Str) (p : Str × Str × Int) : Int := (if p.2.1 = z then p.2.2 else 0) - (if p.1 = z then p.2.2 else 0)
def net (z : Str) (ps : List (Str × Str × Int)) : Int := (ps.map (nR z)).sum
theorem net_app (z : Str) (ps qs : List (Str × Str × Int)) : net z (ps ++ qs) = net z ps + net z qs := by unfold net; rw [List.map_append, List.sum_append]
theorem net_one (z : Str) (p : Str × Str × Int) : net z [p] = nR z p := by unfold net; simp
theorem perm_sumI {a b : List Int} (h : a.Perm b) : a.sum = b.sum := by
  induction h with
  | nil => rfl
  | cons x _ ih => rw [List.sum_cons, List.sum_cons, ih]
  | swap x y l => simp only [List.sum_cons]; omega
  | trans _ _ i1 i2 => exact i1.trans i2
theorem net_perm {z : Str} {ps qs : List (Str × Str × Int)} (h : ps.Perm qs) : net z ps = net z qs := perm_sumI (h.map _)
def gts (z : Str) (ps : List (Str × Str × Int)) : List Int := (ps.filter fun p => decide (p.2.1 = z)).map (·.2.2)
def ows (z : Str) (ps : List (Str × Str × Int)) : List Int := (ps.filter fun p => decide (p.1 = z)).map (·.2.2)
theorem net_go (z : Str) : ∀ ps : List (Str × Str × Int), (gts z ps).sum - (ows z ps).sum = net z ps
  | [] => rfl
  | p :: r => by
    have ih := net_go z r
    have e : net z (p :: r) = nR z p + net z r := by unfold net; rw [List.map_cons, List.sum_cons]
    rw [e, ← ih]
    unfold gts ows nR
    rw [List.filter_cons, List.filter_cons]
    by_cases c1 : p.2.1 = z <;> by_cases c2 : p.1 = z <;> simp [c1, c2] <;> omega
theorem gts_snoc (z : Str) (ps : List (Str × Str × Int)) (p : Str × Str × Int) : gts z (ps ++ [p]) = gts z ps ++ if p.2.1 = z then [p.2.2] else [] := by
  unfold gts
  rw [List.filter_append, List.map_append]
  congr 1
  by_cases c : p.2.1 = z <;> simp [c]
theorem ows_snoc (z : Str) (ps : List (Str × Str × Int)) (p : Str × Str × Int) : ows z (ps ++ [p]) = ows z ps ++ if p.1 = z then [p.2.2] else [] := by
  unfold ows
  rw [List.filter_append, List.map_append]
  congr 1
  by_cases c : p.1 = z <;> simp [c]
/-! ### what a put does -/
theorem hv_cons (p : Str × Int) (r : List (Str × Int)) (z : Str) : hvI (p :: r) z = if p.1 = z then p.2 else hvI r z := by
  unfold hvI
  rw [List.find?_cons]
  by_cases c : p.1 = z
  · rw [decide_eq_true c, if_pos c]; rfl
  · rw [decide_eq_false c, if_neg c]
theorem putI_hv (ps : List (Str × Int)) (k : Str) (v : Int) (z : Str) : hvI (putI ps k v) z = if z = k then v else hvI ps z := by
  have key : ∀ ps : List (Str × Int), hvI (ps.map fun p => if p.1 = k then (p.1, v) else p) z = if z = k ∧ (ps.any fun p => decide (p.1 = k)) = true then v else hvI ps z := by
    intro ps
    induction ps with
    | nil => simp [hvI]
    | cons p r ih =>
      rw [List.map_cons, hv_cons, hv_cons, ih, List.any_cons]
      by_cases c : p.1 = k
      · rw [if_pos c]
        by_cases e : z = k
        · simp [c, e]
        · have n1 : ¬ p.1 = z := fun h => e (h.symm.trans c)
          have n2 : ¬ k = z := fun h => e h.symm
          simp [c, e, n2]
      · rw [if_neg c]
        by_cases e : p.1 = z
        · have n1 : ¬ z = k := fun h => c (e.trans h)
          simp [e, n1]
        · rw [if_neg e, if_neg e, decide_eq_false c, Bool.false_or]
  have app : hvI (ps ++ [(k, v)]) z = if (ps.any fun p => decide (p.1 = z)) = true then hvI ps z else if z = k then v else 0 := by
    unfold hvI
    rw [List.find?_append]
    cases e : ps.find? fun p => decide (p.1 = z) with
    | some q =>
      have : (ps.any fun p => decide (p.1 = z)) = true := List.any_eq_true.mpr ⟨q, List.mem_of_find?_eq_some e, by simpa using List.find?_some e⟩
      rw [if_pos this]; rfl
    | none =>
      have : ¬ (ps.any fun p => decide (p.1 = z)) = true := fun h => by
        obtain ⟨q, hq, c⟩ := List.any_eq_true.mp h
        exact absurd c (List.find?_eq_none.mp e q hq)
      rw [if_neg this]
      by_cases c : z = k
      · simp [c]
      · have n1 : ¬ k = z := fun h => c h.symm
        simp [c, n1]
  unfold putI
  by_cases h : (ps.any fun p => decide (p.1 = k)) = true
  · rw [if_pos h, key, h]
    by_cases e : z = k <;> simp [e]
  · rw [if_neg h, app]
    by_cases e : z = k
    · rw [e, if_neg h, if_pos rfl, if_pos rfl]
    · rw [if_neg e, if_neg e]
      by_cases c : (ps.any fun p => decide (p.1 = z)) = true
      · rw [if_pos c]
      · rw [if_neg c]
        unfold hvI
        have : (ps.find? fun p => decide (p.1 = z)) = none := List.find?_eq_none.mpr fun q hq z' => c (List.any_eq_true.mpr ⟨q, hq, z'⟩)
        rw [this]; rfl
theorem any_mem {ps : List (Str × Int)} {k : Str} : (ps.any fun p => decide (p.1 = k)) = true ↔ k ∈ ps.map (·.1) := by
  rw [List.any_eq_true, List.mem_map]
  constructor
  · rintro ⟨q, hq, c⟩; exact ⟨q, hq, of_decide_eq_true c⟩
  · rintro ⟨q, hq, c⟩; exact ⟨q, hq, decide_eq_true c⟩
theorem putI_keys (ps : List (Str × Int)) (k : Str) (v : Int) : (putI ps k v).map (·.1) = if k ∈ ps.map (·.1) then ps.map (·.1) else ps.map (·.1) ++ [k] := by
  unfold putI
  by_cases h : (ps.any fun p => decide (p.1 = k)) = true
  · rw [if_pos h, if_pos (any_mem.mp h), List.map_map]
    refine List.map_congr_left fun p _ => ?_
    show (if p.1 = k then (p.1, v) else p).1 = p.1
    split <;> rfl
  · rw [if_neg h, if_neg (fun z => h (any_mem.mpr z)), List.map_append]
    rfl
theorem putI_nd {ps : List (Str × Int)} (k : Str) (v : Int) (nd : (ps.map (·.1)).Nodup) : ((putI ps k v).map (·.1)).Nodup := by
  rw [putI_keys]
  split
  · exact nd
  · rename_i c
    refine List.nodup_append.mpr ⟨nd, List.nodup_cons.mpr ⟨List.not_mem_nil, List.nodup_nil⟩, fun x hx y hy e => ?_⟩
    rw [List.mem_singleton.mp hy] at e
    exact c (e ▸ hx)
theorem putI_mem {ps : List (Str × Int)} {k : Str} {v : Int} {z : Str} : z ∈ (putI ps k v).map (·.1) ↔ z ∈ ps.map (·.1) ∨ z = k := by
  rw [putI_keys]
  split
  · rename_i c
    exact ⟨.inl, fun h => h.elim id fun e => e ▸ c⟩
  · rw [List.mem_append, List.mem_singleton]
theorem hvI_not {ps : List (Str × Int)} {k : Str} (h : k ∉ ps.map (·.1)) : hvI ps k = 0 := by
  unfold hvI
  have : (ps.find? fun p => decide (p.1 = k)) = none := List.find?_eq_none.mpr fun q hq z => h (any_mem.mp (List.any_eq_true.mpr ⟨q, hq, z⟩))
  rw [this]; rfl
theorem putI_sum {ps : List (Str × Int)} (k : Str) (v : Int) (nd : (ps.map (·.1)).Nodup) : ((putI ps k v).map (·.2)).sum = (ps.map (·.2)).sum - hvI ps k + v := by
  have key : ∀ ps : List (Str × Int), (ps.map (·.1)).Nodup → k ∈ ps.map (·.1) → ((ps.map fun p => if p.1 = k then (p.1, v) else p).map (·.2)).sum = (ps.map (·.2)).sum - hvI ps k + v := by
    intro ps
    induction ps with
    | nil => intro _ h; cases h
    | cons p r ih =>
      intro nd h
      obtain ⟨n1, n2⟩ := List.nodup_cons.mp nd
      rw [List.map_cons, List.map_cons, List.sum_cons, List.map_cons, List.sum_cons]
      by_cases c : p.1 = k
      · have e1 : (r.map fun p => if p.1 = k then (p.1, v) else p) = r := by
          refine (List.map_congr_left fun q hq => ?_).trans (List.map_id r)
          have : ¬ q.1 = k := fun e => n1 (by show p.1 ∈ _; rw [c, ← e]; exact List.mem_map_of_mem (f := fun x : Str × Int => x.1) hq)
          rw [if_neg this]; rfl
        have e2 : hvI (p :: r) k = p.2 := by unfold hvI; rw [List.find?_cons, decide_eq_true c]; rfl
        rw [e1, if_pos c, e2]
        show v + _ = p.2 + _ - p.2 + v
        omega
      · have m : k ∈ r.map (·.1) := by
          rcases List.mem_cons.mp h with h | h
          · exact absurd h.symm c
          · exact h
        have e2 : hvI (p :: r) k = hvI r k := by unfold hvI; rw [List.find?_cons, decide_eq_false c]
        rw [if_neg c, ih n2 m, e2]
        omega
  unfold putI
  by_cases h : (ps.any fun p => decide (p.1 = k)) = true
  · rw [if_pos h]; exact key ps nd (any_mem.mp h)
  · rw [if_neg h, List.map_append, List.sum_append, hvI_not (fun z => h (any_mem.mpr z))]
    show _ + (v + 0) = _
    omega
theorem hv_in {ps : List (Str × Int)} (nd : (ps.map (·.1)).Nodup) {z : Str} {v : Int} : (z, v) ∈ ps ↔ z ∈ ps.map (·.1) ∧ hvI ps z = v := by
  constructor
  · intro h
    exact ⟨List.mem_map_of_mem (f := fun x : Str × Int => x.1) h, hv_mem nd h⟩
  · rintro ⟨h, e⟩
    obtain ⟨p, hp, rfl⟩ := List.mem_map.mp h
    have := hv_mem nd hp
    rw [← e, this]
    exact hp
/-! ### the dict of nets -/
def knF (ks : List (Str × Int)) (p : Str × Str × Int) : List (Str × Int) := putI (putI ks p.1 (hvI ks p.1 - p.2.2)) p.2.1 (hvI (putI ks p.1 (hvI ks p.1 - p.2.2)) p.2.1 + p.2.2)
def kn (ps : List (Str × Str × Int)) : List (Str × Int) := ps.foldl knF []
theorem kn_snoc (ps : List (Str × Str × Int)) (p : Str × Str × Int) : kn (ps ++ [p]) = knF (kn ps) p := by unfold kn; rw [List.foldl_append]; rfl
structure KnOk (ps : List (Str × Str × Int)) (ks : List (Str × Int)) : Prop where
  nd : (ks.map (·.1)).Nodup
  hv : ∀ z, hvI ks z = net z ps
  mem : ∀ z, z ∈ ks.map (·.1) ↔ ∃ p ∈ ps, p.1 = z ∨ p.2.1 = z
  sum : (ks.map (·.2)).sum = 0
theorem kn_step {ps : List (Str × Str × Int)} {ks : List (Str × Int)} (h : KnOk ps ks) (p : Str × Str × Int) : KnOk (ps ++ [p]) (knF ks p) := by
  have n1 := putI_nd p.1 (hvI ks p.1 - p.2.2) h.nd
  refine ⟨putI_nd _ _ n1, fun z => ?_, fun z => ?_, ?_⟩
  · unfold knF
    rw [putI_hv, putI_hv, putI_hv, net_app, net_one]
    unfold nR
    have a := h.hv z
    have b := h.hv p.1
    have c := h.hv p.2.1
    by_cases e1 : z = p.2.1
    · subst e1
      rw [if_pos rfl, if_pos rfl]
      by_cases e2 : p.2.1 = p.1
      · rw [if_pos e2, if_pos e2.symm, e2]
        rw [e2] at a; omega
      · rw [if_neg e2, if_neg (show ¬ p.1 = p.2.1 from fun q => e2 q.symm)]
        omega
    · rw [if_neg e1, if_neg (show ¬ p.2.1 = z from fun q => e1 q.symm)]
      by_cases e2 : z = p.1
      · subst e2
        rw [if_pos rfl, if_pos rfl]
        omega
      · rw [if_neg e2, if_neg (show ¬ p.1 = z from fun q => e2 q.symm)]
        omega
  · unfold knF
    rw [putI_mem, putI_mem, h.mem]
    constructor
    · rintro ((⟨q, hq, c⟩ | rfl) | rfl)
      · exact ⟨q, List.mem_append_left _ hq, c⟩
      · exact ⟨p, List.mem_append_right _ List.mem_cons_self, .inl rfl⟩
      · exact ⟨p, List.mem_append_right _ List.mem_cons_self, .inr rfl⟩
    · rintro ⟨q, hq, c⟩
      rcases List.mem_append.mp hq with hq | hq
      · exact .inl (.inl ⟨q, hq, c⟩)
      · rw [List.mem_singleton.mp hq] at c
        rcases c with c | c
        · exact .inl (.inr c.symm)
        · exact .inr c.symm
  · unfold knF
    rw [putI_sum _ _ n1, putI_sum _ _ h.nd, h.sum]
    omega
theorem kn_ok : ∀ ps : List (Str × Str × Int), KnOk ps (kn ps) := by
  intro ps
  have key : ∀ (qs ps : List (Str × Str × Int)) (ks : List (Str × Int)), KnOk ps ks → KnOk (ps ++ qs) (qs.foldl knF ks) := by
    intro qs
    induction qs with
    | nil => intro ps ks h; rw [List.append_nil]; exact h
    | cons q r ih =>
      intro ps ks h
      have := ih _ _ (kn_step h q)
      rw [List.append_assoc] at this
      exact this
  exact key ps [] [] ⟨List.nodup_nil, fun z => rfl, fun z => ⟨fun h => (by cases h), fun ⟨p, h, _⟩ => (by cases h)⟩, rfl⟩
theorem nd_le {α : Type} [DecidableEq α] : ∀ {a b : List α}, a.Nodup → (∀ x ∈ a, x ∈ b) → a.length ≤ b.length
  | [], _, _, _ => Nat.zero_le _
  | x :: r, b, nd, h => by
    obtain ⟨n1, n2⟩ := List.nodup_cons.mp nd
    have m := h x List.mem_cons_self
    have := nd_le (a := r) (b := b.erase x) n2 fun y hy => (List.mem_erase_of_ne (show y ≠ x from fun e => n1 (by rw [← e]; exact hy))).mpr (h y (List.mem_cons_of_mem _ hy))
    rw [List.length_erase_of_mem m] at this
    have := List.length_pos_of_mem m
    rw [List.length_cons]
    omega
theorem kn_len {ps : List (Str × Str × Int)} {nm : List Str} (h : ∀ p ∈ ps, p.1 ∈ nm ∧ p.2.1 ∈ nm) : (kn ps).length ≤ nm.length := by
  have ok := kn_ok ps
  have : ((kn ps).map (·.1)).length ≤ nm.length := by
    refine nd_le ok.nd fun z hz => ?_
    obtain ⟨p, hp, c⟩ := (ok.mem z).mp hz
    rcases c with rfl | rfl
    · exact (h p hp).1
    · exact (h p hp).2
  rwa [List.length_map] at this
def KS (a b : Str × Int) : Prop := keyL a.1 < keyL b.1
theorem ks_ext {a b : List (Str × Int)} (ha : a.Pairwise KS) (hb : b.Pairwise KS) (h : ∀ v, v ∈ a ↔ v ∈ b) : a = b :=
  srt_ext (R := KS) (fun a => List.lt_irrefl _) (fun a b c h1 h2 => List.lt_trans h1 h2) a b ha hb h
theorem perm_fI {qs : List (Str × V)} {ks : List (Str × Int)} (h : qs.Perm (ks.map fun p => (p.1, V.int p.2))) : ∃ rs : List (Str × Int), rs.Perm ks ∧ qs = rs.map fun p => (p.1, V.int p.2) := by
  let g : Str × V → Str × Int := fun q => (q.1, match q.2 with | .int i => i | _ => 0)
  refine ⟨qs.map g, ?_, ?_⟩
  · have := h.map g
    rw [List.map_map] at this
    have e : (g ∘ fun p : Str × Int => (p.1, V.int p.2)) = id := by funext p; rfl
    rwa [e, List.map_id] at this
  · rw [List.map_map]
    refine (List.map_id qs).symm.trans (List.map_congr_left fun q hq => ?_)
    obtain ⟨p, _, rfl⟩ := List.mem_map.mp (h.mem_iff.mp hq)
    rfl
/-- tuples of a text and a number -/
abbrev T2 := Addr × Str × Int
def r2 (p : T2) : V := .ref p.1
def T2s (H : Hp) (ps : List T2) : Prop := ∀ p ∈ ps, H p.1 = some (.tup [.str p.2.1, .int p.2.2])
theorem T2s.same {H H' : Hp} {ps : List T2} (h : T2s H ps) (s : Same H H') : T2s H' ps := fun p hp => s _ _ (h p hp)
def v2 (ps : List T2) : List (Str × Int) := ps.map (·.2)
def t2r (p : T2) : Addr × List V := (p.1, [.str p.2.1, .int p.2.2])
theorem t2r_sr (ps : List T2) : (ps.map t2r).map sr = ps.map r2 := by rw [List.map_map]; rfl
theorem t2r_rws {H : Hp} {ps : List T2} (h : T2s H ps) : Rws H (ps.map t2r) := fun s hs => by
  obtain ⟨p, hp, rfl⟩ := List.mem_map.mp hs
  exact h p hp
theorem t2r_pl (ps : List T2) : ∀ s ∈ ps.map t2r, s.2.all plainV = true ∧ s.2.length ≤ 100 := fun s hs => by
  obtain ⟨p, _, rfl⟩ := List.mem_map.mp hs
  exact ⟨rfl, by show 2 ≤ 100; decide⟩
theorem t2r_v {ps qs : List T2} (h : v2 ps = v2 qs) : (ps.map t2r).map (·.2) = (qs.map t2r).map (·.2) := by
  have e : ∀ ps : List T2, (ps.map t2r).map (·.2) = (v2 ps).map fun p => [V.str p.1, V.int p.2] := fun ps => by unfold v2; rw [List.map_map, List.map_map]; rfl
  rw [e, e, h]
theorem paired_t2 {H : Hp} : ∀ {ts : List Addr} {rs : List (Str × Int)}, Paired (fun t (p : Str × V) => H t = some (.tup [.str p.1, p.2])) ts (rs.map fun p => (p.1, V.int p.2)) → ∃ qs : List T2, qs.map r2 = ts.map V.ref ∧ T2s H qs ∧ v2 qs = rs
  | [], [], _ => ⟨[], rfl, (fun _ z => by cases z), rfl⟩
  | _ :: _, [], h => by cases h
  | [], _ :: _, h => by cases h
  | t :: ts, p :: rs, h => by
    cases h with
    | cons h1 h2 =>
      obtain ⟨qs, e1, e2, e3⟩ := paired_t2 h2
      refine ⟨(t, p) :: qs, by rw [List.map_cons, List.map_cons, e1]; rfl, fun q hq => ?_, by unfold v2 at e3 ⊢; rw [List.map_cons, e3]⟩
      rcases List.mem_cons.mp hq with rfl | hq
      · exact h1
      · exact e2 q hq
theorem vD_take (ps : List TD) (i : Nat) {x : TD} (h : ps[i]? = some x) : (vD ps).take (i + 1) = (vD ps).take i ++ [x.2] := by
  unfold vD
  rw [List.take_add_one, List.getElem?_map, h]
  rfl
theorem vD_len (ps : List TD) : (vD ps).length = ps.length := List.length_map _
theorem dI_pairs (ps : List (Str × Int)) : dI ps = (ps.map fun p => (p.1, V.int p.2)).map fun p => (Sum.inr p.1, p.2) := by unfold dI; rw [List.map_map]; rfl
theorem dI_len (ps : List (Str × Int)) : (dI ps).length = ps.length := List.length_map _
theorem knF_len (ks : List (Str × Int)) (p : Str × Str × Int) : (knF ks p).length ≤ ks.length + 2 := by
  have one : ∀ (ks : List (Str × Int)) (k : Str) (v : Int), (putI ks k v).length ≤ ks.length + 1 := fun ks k v => by
    unfold putI
    split
    · rw [List.length_map]; omega
    · rw [List.length_append]; show _ + 1 ≤ _; omega
  have a := one ks p.1 (hvI ks p.1 - p.2.2)
  have b := one (putI ks p.1 (hvI ks p.1 - p.2.2)) p.2.1 (hvI (putI ks p.1 (hvI ks p.1 - p.2.2)) p.2.1 + p.2.2)
  unfold knF
  omega
theorem putI_len1 (ks : List (Str × Int)) (k : Str) (v : Int) : (putI ks k v).length ≤ ks.length + 1 := by
  unfold putI
  split
  · rw [List.length_map]; omega
  · rw [List.length_append]; show _ + 1 ≤ _; omega
theorem kn_len2 : ∀ (ps : List (Str × Str × Int)) (i : Nat), (kn (ps.take i)).length ≤ 2 * i := by
  intro ps i
  induction i with
  | zero => simp [kn]
  | succ i ih =>
    rw [List.take_add_one]
    cases h : ps[i]? with
    | none => simp; omega
    | some p =>
      have e : ps.take i ++ (some p).toList = ps.take i ++ [p] := rfl
      rw [e, kn_snoc]
      have := knF_len (kn (ps.take i)) p
      omega

/-! ### the table of pairs -/
def dJ (ps : List (Int × Int)) : List (Key × V) := ps.map fun p => (Sum.inl p.1, V.int p.2)
def hvJ (ps : List (Int × Int)) (k : Int) : Int := ((ps.find? fun p => decide (p.1 = k)).map (·.2)).getD 0
def putJ (ps : List (Int × Int)) (k : Int) (v : Int) : List (Int × Int) := if (ps.any fun p => decide (p.1 = k)) = true then ps.map (fun p => if p.1 = k then (p.1, v) else p) else ps ++ [(k, v)]
theorem dJ_find (k : Int) : ∀ ps : List (Int × Int), valV (dJ ps) (Sum.inl k) = (ps.find? fun p => decide (p.1 = k)).map fun p => V.int p.2
  | [] => rfl
  | p :: ps => by
    by_cases c : p.1 = k
    · have e : (Sum.inl p.1 : Key) = Sum.inl k := by rw [c]
      rw [List.find?_cons, decide_eq_true c]
      exact valV_pos (p := (Sum.inl p.1, V.int p.2)) (r := dJ ps) e
    · have e : ¬ (Sum.inl p.1 : Key) = Sum.inl k := fun z => c (Sum.inl.inj z)
      rw [List.find?_cons, decide_eq_false c]
      exact (valV_neg (p := (Sum.inl p.1, V.int p.2)) (r := dJ ps) e).trans (dJ_find k ps)
theorem dJ_get (ps : List (Int × Int)) (k : Int) : (valV (dJ ps) (Sum.inl k)).getD (V.int 0) = V.int (hvJ ps k) := by
  rw [dJ_find]
  unfold hvJ
  cases ps.find? fun p => decide (p.1 = k) <;> rfl
theorem dJ_put (ps : List (Int × Int)) (k : Int) (v : Int) : putK (dJ ps) (Sum.inl k) (V.int v) = dJ (putJ ps k v) := by
  unfold putK putJ
  have a : ((dJ ps).any fun kv => decide (kv.1 = (Sum.inl k : Key))) = ps.any fun p => decide (p.1 = k) := by
    unfold dJ
    rw [List.any_map]
    congr 1
    funext p
    exact (key_ll p.1 k).trans (by by_cases c : p.1 = k <;> simp [c])
  rw [a]
  split
  · unfold dJ
    rw [List.map_map, List.map_map]
    apply List.map_congr_left
    intro p _
    show (if (Sum.inl p.1 : Key) = Sum.inl k then ((Sum.inl p.1 : Key), V.int v) else (Sum.inl p.1, V.int p.2)) = (Sum.inl (if p.1 = k then (p.1, v) else p).1, V.int (if p.1 = k then (p.1, v) else p).2)
    by_cases c : p.1 = k
    · rw [if_pos (by rw [c]), if_pos c]
    · rw [if_neg (fun z => c (Sum.inl.inj z)), if_neg c]
  · unfold dJ
    rw [List.map_append]
    rfl
theorem hvJ_mem : ∀ {ps : List (Int × Int)} {p : Int × Int}, (ps.map (·.1)).Nodup → p ∈ ps → hvJ ps p.1 = p.2
  | q :: ps, p, nd, m => by
    have nd' := List.nodup_cons.mp nd
    unfold hvJ
    rcases List.mem_cons.mp m with rfl | m
    · rw [List.find?_cons, decide_eq_true rfl]
      rfl
    · have ne : ¬ q.1 = p.1 := fun e => nd'.1 (by show q.1 ∈ _; rw [e]; exact List.mem_map_of_mem (f := fun x : Int × Int => x.1) m)
      rw [List.find?_cons, decide_eq_false ne]
      exact hvJ_mem nd'.2 m
theorem dJ_val {ps : List (Int × Int)} {p : Int × Int} (nd : (ps.map (·.1)).Nodup) (m : p ∈ ps) : valV (dJ ps) (Sum.inl p.1) = some (V.int p.2) := by
  have h := hvJ_mem nd m
  rw [dJ_find]
  unfold hvJ at h
  cases e : ps.find? fun q => decide (q.1 = p.1) with
  | none => exact absurd (decide_eq_true rfl) (List.find?_eq_none.mp e p m)
  | some q =>
    rw [e] at h
    have h' : q.2 = p.2 := h
    show some (V.int q.2) = _
    rw [h']

theorem dJ_len (ps : List (Int × Int)) : (dJ ps).length = ps.length := List.length_map _
theorem putJ_len1 (ks : List (Int × Int)) (k : Int) (v : Int) : (putJ ks k v).length ≤ ks.length + 1 := by
  unfold putJ
  split
  · rw [List.length_map]; omega
  · rw [List.length_append]; show _ + 1 ≤ _; omega
theorem anyJ_mem {ps : List (Int × Int)} {k : Int} : (ps.any fun p => decide (p.1 = k)) = true ↔ k ∈ ps.map (·.1) := by
  rw [List.any_eq_true, List.mem_map]
  constructor
  · rintro ⟨q, hq, c⟩; exact ⟨q, hq, of_decide_eq_true c⟩
  · rintro ⟨q, hq, c⟩; exact ⟨q, hq, decide_eq_true c⟩
theorem putJ_keys (ps : List (Int × Int)) (k : Int) (v : Int) : (putJ ps k v).map (·.1) = if k ∈ ps.map (·.1) then ps.map (·.1) else ps.map (·.1) ++ [k] := by
  unfold putJ
  by_cases h : (ps.any fun p => decide (p.1 = k)) = true
  · rw [if_pos h, if_pos (anyJ_mem.mp h), List.map_map]
    refine List.map_congr_left fun p _ => ?_
    show (if p.1 = k then (p.1, v) else p).1 = p.1
    split <;> rfl
  · rw [if_neg h, if_neg (fun z => h (anyJ_mem.mpr z)), List.map_append]
    rfl
theorem putJ_nd {ps : List (Int × Int)} (k : Int) (v : Int) (nd : (ps.map (·.1)).Nodup) : ((putJ ps k v).map (·.1)).Nodup := by
  rw [putJ_keys]
  split
  · exact nd
  · rename_i c
    refine List.nodup_append.mpr ⟨nd, List.nodup_cons.mpr ⟨List.not_mem_nil, List.nodup_nil⟩, fun x hx y hy e => ?_⟩
    rw [List.mem_singleton.mp hy] at e
    exact c (e ▸ hx)
theorem putJ_mem {ps : List (Int × Int)} {k : Int} {v : Int} {z : Int} : z ∈ (putJ ps k v).map (·.1) ↔ z ∈ ps.map (·.1) ∨ z = k := by
  rw [putJ_keys]
  split
  · rename_i c
    exact ⟨.inl, fun h => h.elim id fun e => e ▸ c⟩
  · rw [List.mem_append, List.mem_singleton]
/-- what a pair says of the k-th house -/
def cf (k : Nat) (key : Int) : Int := (if key % 26 = (k : Int) then 1 else 0) - (if key / 26 = (k : Int) then 1 else 0)
def nT (k : Nat) (T : List (Int × Int)) : Int := (T.map fun p => cf k p.1 * p.2).sum
theorem nT_put {T : List (Int × Int)} (k : Nat) (key more : Int) (nd : (T.map (·.1)).Nodup) : nT k (putJ T key (hvJ T key + more)) = nT k T + cf k key * more := by
  have hc : ∀ (p : Int × Int) (r : List (Int × Int)), hvJ (p :: r) key = if p.1 = key then p.2 else hvJ r key := fun p r => by
    unfold hvJ
    rw [List.find?_cons]
    by_cases c : p.1 = key
    · rw [decide_eq_true c, if_pos c]; rfl
    · rw [decide_eq_false c, if_neg c]
  have main : ∀ T : List (Int × Int), (T.map (·.1)).Nodup → key ∈ T.map (·.1) → nT k (T.map fun p => if p.1 = key then (p.1, hvJ T key + more) else p) = nT k T + cf k key * more := by
    intro T
    induction T with
    | nil => intro _ h; cases h
    | cons p r ih =>
      intro nd h
      obtain ⟨n1, n2⟩ := List.nodup_cons.mp nd
      unfold nT at ih ⊢
      rw [List.map_cons, List.map_cons, List.sum_cons, List.map_cons, List.sum_cons]
      by_cases c : p.1 = key
      · have e1 : (r.map fun q => if q.1 = key then (q.1, hvJ (p :: r) key + more) else q) = r := by
          refine (List.map_congr_left fun q hq => ?_).trans (List.map_id r)
          have : ¬ q.1 = key := fun e => n1 (by show p.1 ∈ _; rw [c, ← e]; exact List.mem_map_of_mem (f := fun x : Int × Int => x.1) hq)
          rw [if_neg this]; rfl
        rw [e1, if_pos c, hc, if_pos c, c]
        show cf k key * (p.2 + more) + _ = cf k key * p.2 + _ + _
        rw [Int.mul_add]
        omega
      · have m : key ∈ r.map (·.1) := by
          rcases List.mem_cons.mp h with h | h
          · exact absurd h.symm c
          · exact h
        rw [if_neg c, hc, if_neg c, ih n2 m]
        omega
  unfold putJ
  by_cases h : (T.any fun p => decide (p.1 = key)) = true
  · rw [if_pos h]; exact main T nd (anyJ_mem.mp h)
  · rw [if_neg h]
    have z : hvJ T key = 0 := by
      unfold hvJ
      have : (T.find? fun p => decide (p.1 = key)) = none := List.find?_eq_none.mpr fun q hq c => h (List.any_eq_true.mpr ⟨q, hq, c⟩)
      rw [this]; rfl
    unfold nT
    rw [List.map_append, List.sum_append, z]
    show _ + (cf k key * (0 + more) + 0) = _
    rw [Int.zero_add, Int.add_zero]
/-- what the deeds say of the k-th house -/
def sdF (k : Nat) (p : DE) : Int := (if p.2.2.1 = k then p.2.2.2 else 0) - (if p.2.1 = k then p.2.2.2 else 0)
def sd (k : Nat) (ds : List DE) : Int := (ds.map (sdF k)).sum
theorem sd_take (k : Nat) (ds : List DE) (i : Nat) {x : DE} (h : ds[i]? = some x) : sd k (ds.take (i + 1)) = sd k (ds.take i) + sdF k x := by
  unfold sd
  rw [List.take_add_one, h, List.map_append, List.sum_append]
  show _ + (sdF k x + 0) = _
  omega
structure TOk (m : Nat) (T : List (Int × Int)) : Prop where
  nd : (T.map (·.1)).Nodup
  ks : ∀ p ∈ T, ∃ a b : Nat, a < b ∧ b < m ∧ p.1 = (a : Int) * 26 + (b : Int)
theorem cf_at {a b k : Nat} (ha : a < 26) (hb : b < 26) : cf k ((a : Int) * 26 + (b : Int)) = (if b = k then 1 else 0) - (if a = k then 1 else 0) := by
  unfold cf
  have e1 : ((a : Int) * 26 + (b : Int)) % 26 = (b : Int) := by omega
  have e2 : ((a : Int) * 26 + (b : Int)) / 26 = (a : Int) := by omega
  rw [e1, e2]
  have c1 : ((b : Int) = (k : Int)) ↔ b = k := by omega
  have c2 : ((a : Int) = (k : Int)) ↔ a = k := by omega
  simp only [c1, c2]
def rw1 (nm : List Str) (p : Int × Int) : List (Str × Str × Int) := if 0 < p.2 then [(nmA nm (p.1 / 26).toNat, nmA nm (p.1 % 26).toNat, p.2)] else if p.2 < 0 then [(nmA nm (p.1 % 26).toNat, nmA nm (p.1 / 26).toNat, -p.2)] else []
theorem rw_net {nm : List Str} (nd : nm.Nodup) (l : nm.length ≤ 8) {k : Nat} (hk : k < nm.length) : ∀ {T : List (Int × Int)}, (∀ p ∈ T, ∃ a b : Nat, a < b ∧ b < nm.length ∧ p.1 = (a : Int) * 26 + (b : Int)) → net (nmA nm k) (T.flatMap (rw1 nm)) = nT k T
  | [], _ => rfl
  | p :: T, h => by
    have ih := rw_net nd l hk (T := T) fun q hq => h q (List.mem_cons_of_mem _ hq)
    obtain ⟨a, b, hab, hb, e⟩ := h p List.mem_cons_self
    have eT : nT k (p :: T) = cf k p.1 * p.2 + nT k T := by unfold nT; rw [List.map_cons, List.sum_cons]
    rw [List.flatMap_cons, net_app, ih, eT, e, cf_at (by omega) (by omega)]
    have e1 : (p.1 / 26).toNat = a := by rw [e]; omega
    have e2 : (p.1 % 26).toNat = b := by rw [e]; omega
    have ia : nmA nm a = nmA nm k ↔ a = k := ⟨fun z => nmA_inj nd (by omega) hk z, fun z => by rw [z]⟩
    have ib : nmA nm b = nmA nm k ↔ b = k := ⟨fun z => nmA_inj nd hb hk z, fun z => by rw [z]⟩
    congr 1
    unfold rw1
    rw [e1, e2]
    by_cases c1 : 0 < p.2
    · rw [if_pos c1, net_one]
      unfold nR
      simp only [ia, ib]
      by_cases x : b = k <;> by_cases y : a = k <;> simp [x, y] <;> omega
    · rw [if_neg c1]
      by_cases c2 : p.2 < 0
      · rw [if_pos c2, net_one]
        unfold nR
        simp only [ia, ib]
        by_cases x : b = k <;> by_cases y : a = k <;> simp [x, y] <;> omega
      · rw [if_neg c2, show p.2 = 0 by omega, Int.mul_zero]
        rfl
theorem rw_mem {nm : List Str} (l : nm.length ≤ 8) {T : List (Int × Int)} (h : ∀ p ∈ T, ∃ a b : Nat, a < b ∧ b < nm.length ∧ p.1 = (a : Int) * 26 + (b : Int)) {v : Str × Str × Int} (hv : v ∈ T.flatMap (rw1 nm)) : ∃ p ∈ T, ∃ a b : Nat, a < b ∧ b < nm.length ∧ p.1 = (a : Int) * 26 + (b : Int) ∧ ((v.1 = nmA nm a ∧ v.2.1 = nmA nm b) ∨ (v.1 = nmA nm b ∧ v.2.1 = nmA nm a)) := by
  obtain ⟨p, hp, hv⟩ := List.mem_flatMap.mp hv
  obtain ⟨a, b, hab, hb, e⟩ := h p hp
  have e1 : (p.1 / 26).toNat = a := by rw [e]; omega
  have e2 : (p.1 % 26).toNat = b := by rw [e]; omega
  refine ⟨p, hp, a, b, hab, hb, e, ?_⟩
  unfold rw1 at hv
  rw [e1, e2] at hv
  split at hv
  · rw [List.mem_singleton.mp hv]; exact .inl ⟨rfl, rfl⟩
  · split at hv
    · rw [List.mem_singleton.mp hv]; exact .inr ⟨rfl, rfl⟩
    · cases hv
theorem rw_len (nm : List Str) (p : Int × Int) : (rw1 nm p).length ≤ 1 := by
  unfold rw1
  split
  · exact Nat.le_refl _
  · split
    · exact Nat.le_refl _
    · exact Nat.zero_le _
theorem rw_nd {nm : List Str} (nd : nm.Nodup) (l : nm.length ≤ 8) : ∀ {T : List (Int × Int)}, TOk nm.length T → ((T.flatMap (rw1 nm)).map fun v => (v.1, v.2.1)).Nodup
  | [], _ => List.nodup_nil
  | p :: T, h => by
    obtain ⟨n1, n2⟩ := List.nodup_cons.mp h.nd
    have ok : TOk nm.length T := ⟨n2, fun q hq => h.ks q (List.mem_cons_of_mem _ hq)⟩
    rw [List.flatMap_cons, List.map_append]
    refine List.nodup_append.mpr ⟨?_, rw_nd nd l ok, fun x hx y hy e => ?_⟩
    · have := rw_len nm p
      cases c : rw1 nm p with
      | nil => exact List.nodup_nil
      | cons v r =>
        rw [c] at this
        have : r = [] := List.eq_nil_of_length_eq_zero (by rw [List.length_cons] at this; omega)
        rw [this]
        exact List.nodup_cons.mpr ⟨List.not_mem_nil, List.nodup_nil⟩
    · obtain ⟨v, hv, rfl⟩ := List.mem_map.mp hx
      obtain ⟨v', hv', rfl⟩ := List.mem_map.mp hy
      obtain ⟨q, hq, a, b, ab, bm, eq, c⟩ := rw_mem l (T := [p]) (fun q hq => h.ks q (by rw [List.mem_singleton.mp hq]; exact List.mem_cons_self)) (v := v) (by rw [List.flatMap_cons, List.flatMap_nil, List.append_nil]; exact hv)
      obtain ⟨q', hq', a', b', ab', bm', eq', c'⟩ := rw_mem l ok.ks hv'
      have e1 : v.1 = v'.1 := (Prod.mk.inj e).1
      have e2 : v.2.1 = v'.2.1 := (Prod.mk.inj e).2
      have qe : q = p := List.mem_singleton.mp hq
      have inj : ∀ {i j : Nat}, i < nm.length → j < nm.length → nmA nm i = nmA nm j → i = j := fun hi hj z => nmA_inj nd hi hj z
      have same : a = a' ∧ b = b' := by
        rcases c with ⟨c1, c2⟩ | ⟨c1, c2⟩ <;> rcases c' with ⟨d1, d2⟩ | ⟨d1, d2⟩
        · exact ⟨inj (by omega) (by omega) (c1.symm.trans (e1.trans d1)), inj (by omega) (by omega) (c2.symm.trans (e2.trans d2))⟩
        · have x := inj (by omega) (by omega) (c1.symm.trans (e1.trans d1))
          have y := inj (by omega) (by omega) (c2.symm.trans (e2.trans d2))
          omega
        · have x := inj (by omega) (by omega) (c1.symm.trans (e1.trans d1))
          have y := inj (by omega) (by omega) (c2.symm.trans (e2.trans d2))
          omega
        · exact ⟨inj (by omega) (by omega) (c2.symm.trans (e2.trans d2)), inj (by omega) (by omega) (c1.symm.trans (e1.trans d1))⟩
      refine n1 ?_
      show p.1 ∈ _
      rw [← qe, eq, same.1, same.2, ← eq']
      exact List.mem_map_of_mem (f := fun x : Int × Int => x.1) hq'
structure BOk (nm : List Str) (ds : List DE) (ps : List (Str × Str × Int)) : Prop where
  net : ∀ k, k < nm.length → net (nmA nm k) ps = sd k ds
  mem : ∀ p ∈ ps, p.1 ∈ nm ∧ p.2.1 ∈ nm
theorem nmA_mem {nm : List Str} {i : Nat} (h : i < nm.length) : nmA nm i ∈ nm := List.mem_of_getElem? (nmA_get h)
theorem bok_of {nm : List Str} (nd : nm.Nodup) (l : nm.length ≤ 8) {ds : List DE} {T : List (Int × Int)} {ps : List (Str × Str × Int)} (ok : TOk nm.length T) (h : ∀ k, k < nm.length → nT k T = sd k ds) (pm : ps.Perm (T.flatMap (rw1 nm))) : BOk nm ds ps := by
  refine ⟨fun k hk => by rw [net_perm pm, rw_net nd l hk ok.ks, h k hk], fun p hp => ?_⟩
  obtain ⟨q, _, a, b, ab, bm, _, c⟩ := rw_mem l ok.ks (pm.mem_iff.mp hp)
  rcases c with ⟨c1, c2⟩ | ⟨c1, c2⟩ <;> rw [c1, c2]
  · exact ⟨nmA_mem (by omega), nmA_mem (by omega)⟩
  · exact ⟨nmA_mem (by omega), nmA_mem (by omega)⟩
theorem getD_set2 (p : List Int) (i j : Nat) (v : Int) (h : i < p.length) : (p.set i v).getD j 0 = if j = i then v else p.getD j 0 := by
  simp only [List.getD_eq_getElem?_getD, List.getElem?_set]
  by_cases e : i = j
  · subst e; simp [h]
  · have e' : ¬ j = i := fun z => e z.symm
    simp [e, e']
theorem net_none {z : Str} : ∀ {ps : List (Str × Str × Int)}, (∀ p ∈ ps, p.1 ≠ z ∧ p.2.1 ≠ z) → net z ps = 0
  | [], _ => rfl
  | p :: r, h => by
    have ih := net_none (z := z) (ps := r) fun q hq => h q (List.mem_cons_of_mem _ hq)
    have e : net z (p :: r) = nR z p + net z r := by unfold net; rw [List.map_cons, List.sum_cons]
    obtain ⟨h1, h2⟩ := h p List.mem_cons_self
    rw [e, ih]
    unfold nR
    rw [if_neg h1, if_neg h2]
    omega
def addS (ks : List Str) (z : Str) : List Str := if z ∈ ks then ks else ks ++ [z]
theorem addS_mem {ks : List Str} {z y : Str} : y ∈ addS ks z ↔ y ∈ ks ∨ y = z := by
  unfold addS
  split
  · rename_i c
    exact ⟨.inl, fun h => h.elim id fun e => e ▸ c⟩
  · rw [List.mem_append, List.mem_singleton]
theorem addS_len (ks : List Str) (z : Str) : (addS ks z).length ≤ ks.length + 1 := by
  unfold addS
  split
  · omega
  · rw [List.length_append]; exact Nat.le_refl _
theorem dS_put (ks : List Str) (z : Str) : putK (dS ks) (Sum.inr z) (V.bl true) = dS (addS ks z) := by
  unfold addS
  split
  · rename_i c
    unfold putK
    have ha : ((dS ks).any fun kv => decide (kv.1 = (Sum.inr z : Key))) = true := List.any_eq_true.mpr ⟨((Sum.inr z : Key), V.bl true), List.mem_map_of_mem (f := fun s : Str => ((Sum.inr s : Key), V.bl true)) c, decide_eq_true rfl⟩
    rw [if_pos ha]
    unfold dS
    rw [List.map_map]
    refine List.map_congr_left fun s _ => ?_
    show (if (Sum.inr s : Key) = Sum.inr z then ((Sum.inr s : Key), V.bl true) else (Sum.inr s, V.bl true)) = (Sum.inr s, V.bl true)
    split <;> rfl
  · rename_i c
    exact dS_new c
theorem dS_len (ks : List Str) : (dS ks).length = ks.length := List.length_map _
theorem dS_some : ∀ {ps : List Str} {z : Str}, (valV (dS ps) (Sum.inr z)).isSome = decide (z ∈ ps)
  | [], _ => rfl
  | p :: ps, z => by
    by_cases c : p = z
    · subst c
      have : valV (dS (p :: ps)) (Sum.inr p) = some (V.bl true) := valV_pos (p := (Sum.inr p, V.bl true)) (r := dS ps) rfl
      rw [this]
      simp
    · have e : ¬ (Sum.inr p : Key) = Sum.inr z := fun h => c (Sum.inr.inj h)
      have : valV (dS (p :: ps)) (Sum.inr z) = valV (dS ps) (Sum.inr z) := valV_neg (p := (Sum.inr p, V.bl true)) (r := dS ps) e
      rw [this, dS_some]
      have n2 : ¬ z = p := fun h => c h.symm
      simp [n2]
theorem cut_one {α : Type} (f : α → V) (ps : List α) : cutV (ps.map f) (some 1) none = (ps.drop 1).map f := by
  cases ps with
  | nil => rfl
  | cons p r => exact cutG_drop f (p :: r) (k := 1) (by rw [List.length_cons]; omega)
def rowV (nm : List Str) (ms : List Int) (ks : List Str) (i : Nat) : List (Str × Int) := ((List.range i).filter fun k => decide (nmA nm k ∈ ks)).map fun k => (nmA nm k, ms.getD k 0)
theorem rowV_succ (nm : List Str) (ms : List Int) (ks : List Str) (i : Nat) : rowV nm ms ks (i + 1) = rowV nm ms ks i ++ if nmA nm i ∈ ks then [(nmA nm i, ms.getD i 0)] else [] := by
  unfold rowV
  rw [List.range_succ, List.filter_append, List.map_append]
  congr 1
  by_cases c : nmA nm i ∈ ks <;> simp [c]
theorem rowV_nd {nm : List Str} (nd : nm.Nodup) (ms : List Int) (ks : List Str) : ((rowV nm ms ks nm.length).map (·.1)).Nodup := by
  unfold rowV
  rw [List.map_map]
  refine List.pairwise_map.mpr (((List.nodup_range (n := nm.length)).filter _).imp_of_mem fun {a b} ha hb h e => h ?_)
  have h1 := List.mem_range.mp (List.mem_filter.mp ha).1
  have h2 := List.mem_range.mp (List.mem_filter.mp hb).1
  exact nmA_inj nd h1 h2 e
theorem row_same {nm : List Str} (nd : nm.Nodup) {ds : List DE} {ps : List (Str × Str × Int)} (bok : BOk nm ds ps) {ms : List Int} (hm : ∀ k, k < nm.length → ms.getD k 0 = sd k ds) {ks : List Str} (hk : ∀ z, z ∈ ks ↔ ∃ p ∈ ps, p.1 = z ∨ p.2.1 = z) (v : Str × Int) : v ∈ kn ps ↔ v ∈ rowV nm ms ks nm.length := by
  have ok := kn_ok ps
  have h1 := hv_in ok.nd (z := v.1) (v := v.2)
  rw [show ((v.1, v.2) : Str × Int) = v from rfl] at h1
  rw [h1, ok.mem, ok.hv, ← hk]
  unfold rowV
  rw [List.mem_map]
  constructor
  · rintro ⟨h2, h3⟩
    obtain ⟨p, hp, c⟩ := (hk _).mp h2
    have mn : v.1 ∈ nm := by
      rcases c with c | c
      · rw [← c]; exact (bok.mem p hp).1
      · rw [← c]; exact (bok.mem p hp).2
    obtain ⟨k, hkl, e⟩ := List.mem_iff_getElem.mp mn
    have e2 : nmA nm k = v.1 := by
      have := nmA_get hkl
      rw [List.getElem?_eq_getElem hkl, e] at this
      exact (Option.some.inj this).symm
    refine ⟨k, List.mem_filter.mpr ⟨List.mem_range.mpr hkl, by rw [e2]; exact decide_eq_true h2⟩, ?_⟩
    rw [hm k hkl, ← bok.net k hkl, e2, h3]
  · rintro ⟨k, hk1, rfl⟩
    obtain ⟨a, b⟩ := List.mem_filter.mp hk1
    have kl := List.mem_range.mp a
    exact ⟨of_decide_eq_true b, by rw [bok.net k kl, hm k kl]⟩

section
variable {P : Program} {w : World} {K : PySem.W.Frag} {mg : Str → Option Value} {base : Heap}
seal PySem.wpAny
theorem sc_net_of : FnScope ["book", "who", "gets", "owes"] ["book", "who"] (defScope (top 1)) := ⟨rfl, rfl, rfl, by decide +kernel, rfl, by decide +kernel, by decide +kernel⟩
def sp_net_of (K : PySem.W.Frag) : Sp := fun vs H Q _ => ∃ (b : Addr) (ps : List TD) (z : Str), vs = [.ref b, .str z] ∧ H b = some (.lst (ps.map rd)) ∧ Tds H ps ∧ ps.length ≤ 900 ∧ ∀ H', Same H H' → Q (.int (net z (vD ps))) H'
theorem ok_net_of (d_net_of : Dv K mg "net_of" (top 1) ["book", "who"]) (B : Bl mg) (C : Co mg) (R : Er K mg)  : FnOk P w K mg base CX0 1 d_net_of.f d_net_of.fd ["book", "who"] (sp_net_of K) := by
  refine d_net_of.F.ok sc_net_of (fun vs H Q E h => ?_) (fun cdv A outer s H vs Q E hr h => ?_)
  · obtain ⟨_, _, _, rfl, _⟩ := h; rfl
  obtain ⟨b, ps, z, rfl, hb, hD, hl, q⟩ := h
  refine ⟨_, (pss_cons (ps_set (i := 2) sc_net_of.nd rfl (Or.inl rfl) (pe_callB (call_sum rfl) rfl B.b_sum PyProof.Rows.boot_sum (pa_cons (pe_lcT (N := ["book", "who", "gets", "owes"]) (M := ["book", "who", "gets", "owes"]) (sc := defScope (top 1)) (ts := ["debtor", "creditor", "amount"]) ⟨by decide +kernel, rfl, by decide +kernel, by decide +kernel, by decide +kernel, rfl, by decide +kernel⟩ rfl rfl rfl (pi_list (pv 0)) (fun L_ _ _ _ _ _ => pg_tupK K 3 rfl rfl (pgs_cons (L_.nm rfl 0 rfl rfl _ _ _ _ _) (pgs_cons (L_.nm rfl 1 rfl rfl _ _ _ _ _) (pgs_cons (L_.nm rfl 2 rfl rfl _ _ _ _ _) pgs_nil)))) (fun _ _ _ _ _ => (pif_one (pt_cmpR op_eq (pv 1) (pv 4) (nomark _)))) (fun _ _ _ _ _ => (pv 2))) pa_nil))) (pss_cons (ps_set (i := 3) sc_net_of.nd rfl (Or.inl rfl) (pe_callB (call_sum rfl) rfl B.b_sum PyProof.Rows.boot_sum (pa_cons (pe_lcT (N := ["book", "who", "gets", "owes"]) (M := ["book", "who", "gets", "owes"]) (sc := defScope (top 1)) (ts := ["debtor", "creditor", "amount"]) ⟨by decide +kernel, rfl, by decide +kernel, by decide +kernel, by decide +kernel, rfl, by decide +kernel⟩ rfl rfl rfl (pi_list (pv 0)) (fun L_ _ _ _ _ _ => pg_tupK K 3 rfl rfl (pgs_cons (L_.nm rfl 0 rfl rfl _ _ _ _ _) (pgs_cons (L_.nm rfl 1 rfl rfl _ _ _ _ _) (pgs_cons (L_.nm rfl 2 rfl rfl _ _ _ _ _) pgs_nil)))) (fun _ _ _ _ _ => (pif_one (pt_cmpR op_eq (pv 0) (pv 4) (nomark _)))) (fun _ _ _ _ _ => (pv 2))) pa_nil))) (pss_one (ps_ret (pe_op op_sub (pv 2) (pv 3)))))), ?_⟩
  have hvl := vD_len ps
  refine ⟨_, rfl, b, rfl, ⟨_, .inl (.inl hb)⟩, ?_⟩
  refine comp_invF2 (K := K) (a := b) (ps := ps) (r := rd) (fun i ys H' => ys = (gts z ((vD ps).take i)).map V.int ∧ H = H' ∧ ys.length ≤ i) ⟨rfl, rfl, Nat.le_refl _⟩ (fun i ys H' z' => ?_) (fun i ys H' z' => z'.2.2) (szOk (by omega)) (fun i x ys H' hx J => ?_) (fun ys H1 z' => ?_)
  · obtain ⟨_, rfl, _⟩ := z'
    exact .inl (.inl hb)
  · obtain ⟨rfl, rfl, hn⟩ := J
    have kx := hD x (List.mem_of_getElem? hx)
    have tk := vD_take ps i hx
    refine ⟨x.1, _, rfl, .inl (.inl kx), rfl, _, _, rfl, _, _, rfl, _, _, rfl, rfl, rfl, ?_⟩
    refine ⟨_, rfl, _, rfl, rfl, _, rfl, ite2 (fun c => ?_) (fun c => ?_)⟩
    · have c' : x.2.2.1 = z := by simpa using c
      refine ⟨_, rfl, ?_, rfl, by rw [List.length_append]; show _ + 1 ≤ _; omega⟩
      rw [tk, gts_snoc, if_pos c', List.map_append]; rfl
    · have c' : ¬ x.2.2.1 = z := by simpa using c
      refine ⟨?_, rfl, by omega⟩
      rw [tk, gts_snoc, if_neg c', List.append_nil]
  obtain ⟨rfl, rfl, _⟩ := z'
  rw [← hvl, List.take_length]
  intro l1 hl1
  have s1 := same_upd (u := .lst ((gts z (vD ps)).map V.int)) hl1
  refine ⟨l1, gts z (vD ps), rfl, .inl (.inl upd_same), ?_⟩
  have hb := s1 _ _ hb
  have hD := hD.same s1
  generalize upd H l1 (.lst ((gts z (vD ps)).map V.int)) = H2 at s1 hb hD
  refine ⟨_, rfl, b, rfl, ⟨_, .inl (.inl hb)⟩, ?_⟩
  refine comp_invF2 (K := K) (a := b) (ps := ps) (r := rd) (fun i ys H' => ys = (ows z ((vD ps).take i)).map V.int ∧ H2 = H' ∧ ys.length ≤ i) ⟨rfl, rfl, Nat.le_refl _⟩ (fun i ys H' z' => ?_) (fun i ys H' z' => z'.2.2) (szOk (by omega)) (fun i x ys H' hx J => ?_) (fun ys H1 z' => ?_)
  · obtain ⟨_, rfl, _⟩ := z'
    exact .inl (.inl hb)
  · obtain ⟨rfl, rfl, hn⟩ := J
    have kx := hD x (List.mem_of_getElem? hx)
    have tk := vD_take ps i hx
    refine ⟨x.1, _, rfl, .inl (.inl kx), rfl, _, _, rfl, _, _, rfl, _, _, rfl, rfl, rfl, ?_⟩
    refine ⟨_, rfl, _, rfl, rfl, _, rfl, ite2 (fun c => ?_) (fun c => ?_)⟩
    · have c' : x.2.1 = z := by simpa using c
      refine ⟨_, rfl, ?_, rfl, by rw [List.length_append]; show _ + 1 ≤ _; omega⟩
      rw [tk, ows_snoc, if_pos c', List.map_append]; rfl
    · have c' : ¬ x.2.1 = z := by simpa using c
      refine ⟨?_, rfl, by omega⟩
      rw [tk, ows_snoc, if_neg c', List.append_nil]
  obtain ⟨rfl, rfl, _⟩ := z'
  rw [← hvl, List.take_length]
  intro l2 hl2
  refine ⟨l2, ows z (vD ps), rfl, .inl (.inl upd_same), ?_⟩
  refine ⟨_, rfl, _, rfl, _, _, rfl, rfl, ?_⟩
  dsimp only
  rw [net_go]
  exact q _ (same_upd' s1 hl2)
theorem sc_nets : FnScope ["book", "known", "debtor", "creditor", "amount"] ["book"] (defScope (top 2)) := ⟨rfl, rfl, rfl, by decide +kernel, rfl, by decide +kernel, by decide +kernel⟩
def sp_nets (K : PySem.W.Frag) : Sp := fun vs H Q _ => ∃ (b : Addr) (ps : List TD), vs = [.ref b] ∧ H b = some (.lst (ps.map rd)) ∧ Tds H ps ∧ ps.length ≤ 900 ∧ (kn (vD ps)).length < 64 ∧ ∀ (H' : Hp) (l : Addr) (qs : List T2), Same H H' → H l = none → H' l = some (.lst (qs.map r2)) → T2s H' qs → (v2 qs).Perm (kn (vD ps)) → (v2 qs).Pairwise KS → Q (.ref l) H'
theorem ok_nets (d_nets : Dv K mg "nets" (top 2) ["book"]) (B : Bl mg) (C : Co mg) (R : Er K mg)  : FnOk P w K mg base CX0 1 d_nets.f d_nets.fd ["book"] (sp_nets K) := by
  refine d_nets.F.ok sc_nets (fun vs H Q E h => ?_) (fun cdv A outer s H vs Q E hr h => ?_)
  · obtain ⟨_, _, rfl, _⟩ := h; rfl
  obtain ⟨b, ps, rfl, hb, hD, hl, h64, q⟩ := h
  refine ⟨_, (pss_cons (ps_set (i := 1) sc_nets.nd rfl (Or.inl rfl) pe_dnewK) (pss_cons (ps_for PassesOwn.never rfl (pi_list (pv 0)) (pg_tup rfl (pgs_cons (pg_name (i := 2) sc_nets.nd rfl (Or.inl rfl)) (pgs_cons (pg_name (i := 3) sc_nets.nd rfl (Or.inl rfl)) (pgs_cons (pg_name (i := 4) sc_nets.nd rfl (Or.inl rfl)) pgs_nil)))) (pss_cons (ps_dput (hu1 hr.units) (pv 1) (pv 2) (pe_op op_sub (pe_dget2 (hu1 hr.units) (pv 1) (pv 2) pe_int ⟨rfl, rfl, rfl, rfl⟩) (pv 4)) rfl) (pss_one (ps_dput (hu1 hr.units) (pv 1) (pv 3) (pe_op op_add (pe_dget2 (hu1 hr.units) (pv 1) (pv 3) pe_int ⟨rfl, rfl, rfl, rfl⟩) (pv 4)) rfl)))) (pss_one (ps_ret (pe_srtItems rfl rfl B.b_sorted (pv 1)))))), ?_⟩
  refine fun D hD0 => ?_
  have fD : H D = none := hD0
  have s1 := same_upd (u := .dK []) hD0
  have kD : upd H D (.dK []) D = some (.dK (dI (kn ((vD ps).take 0)))) := upd_same
  generalize upd H D (.dK []) = H1 at s1 kD
  refine ⟨_, rfl, b, rfl, ⟨_, .inl (.inl (s1 _ _ hb))⟩, ?_⟩
  refine for_list (K := K) (a := b) (xs := ps.map rd) (fun i σ H' => Same H H' ∧ H' D = some (.dK (dI (kn ((vD ps).take i)))) ∧ ∃ v2 v3 v4, σ = [some (.ref b), some (.ref D), v2, v3, v4]) ⟨s1, kD, none, none, none, rfl⟩ (fun i σ H' _ z => .inl (.inl (z.1 _ _ hb))) (fun i x σ H' hx z => ?_) (fun σ H' z => ?_)
  · obtain ⟨s2, kD, v2, v3, v4, rfl⟩ := z
    rw [List.getElem?_map] at hx
    obtain ⟨y, hy, rfl⟩ := Option.map_eq_some_iff.mp hx
    have ky := s2 _ _ (hD y (List.mem_of_getElem? hy))
    have il : i < ps.length := (List.getElem?_eq_some_iff.mp hy).1
    have tk : kn ((vD ps).take (i + 1)) = knF (kn ((vD ps).take i)) y.2 := by rw [vD_take ps i hy, kn_snoc]
    have lk := kn_len2 (vD ps) i
    generalize kn ((vD ps).take i) = ks at kD tk lk
    refine ⟨y.1, _, rfl, .inl (.inl ky), rfl, _, _, rfl, _, _, rfl, _, _, rfl, rfl, ?_⟩
    refine ⟨_, rfl, D, rfl, .inl ⟨_, .inl kD⟩, _, rfl, _, .inl ⟨_, Sum.inr y.2.1, .inl kD, rfl, rfl⟩, _, rfl, ?_⟩
    rw [dI_get]
    refine ⟨_, _, rfl, rfl, _, rfl, _, rfl, D, _, rfl, .inl ⟨_, Sum.inr y.2.1, kD, rfl, szLt (by rw [dI_len]; omega), rfl⟩, ?_⟩
    dsimp only
    rw [dI_put]
    have kD2 := upd_same (H := H') (a := D) (o := .dK (dI (putI ks y.2.1 (hvI ks y.2.1 - y.2.2.2))))
    have s3 := same_updN (u := .dK (dI (putI ks y.2.1 (hvI ks y.2.1 - y.2.2.2)))) s2 fD
    have l1 := putI_len1 ks y.2.1 (hvI ks y.2.1 - y.2.2.2)
    have ek : kn ((vD ps).take (i + 1)) = putI (putI ks y.2.1 (hvI ks y.2.1 - y.2.2.2)) y.2.2.1 (hvI (putI ks y.2.1 (hvI ks y.2.1 - y.2.2.2)) y.2.2.1 + y.2.2.2) := tk
    generalize putI ks y.2.1 (hvI ks y.2.1 - y.2.2.2) = k2 at kD2 s3 l1 ek
    generalize upd H' D (.dK (dI k2)) = H3 at kD2 s3
    refine ⟨_, rfl, D, rfl, .inl ⟨_, .inl kD2⟩, _, rfl, _, .inl ⟨_, Sum.inr y.2.2.1, .inl kD2, rfl, rfl⟩, _, rfl, ?_⟩
    rw [dI_get]
    refine ⟨_, _, rfl, rfl, _, rfl, _, rfl, D, _, rfl, .inl ⟨_, Sum.inr y.2.2.1, kD2, rfl, szLt (by rw [dI_len]; omega), rfl⟩, ?_⟩
    dsimp only
    rw [dI_put]
    refine ⟨same_updN s3 fD, ?_, _, _, _, rfl⟩
    rw [upd_same, ek]
  obtain ⟨s2, kD, v2', v3, v4, rfl⟩ := z
  rw [List.length_map, ← vD_len, List.take_length] at kD
  refine ⟨_, rfl, D, (kn (vD ps)).map (fun p => (p.1, V.int p.2)), rfl, by rw [kD, dI_pairs], by rw [List.length_map]; exact h64, fun H2 l ts qs s3 pm pw kl pr fl => ?_⟩
  obtain ⟨rs, prm, rfl⟩ := perm_fI pm
  obtain ⟨us, e1, e2, e3⟩ := paired_t2 pr
  refine q _ l us (s2.trans s3) (s2.free fl) (by rw [e1]; exact kl) e2 (by rw [e3]; exact prm) ?_
  rw [e3]
  have pw2 := List.pairwise_map.mp pw
  exact pw2
theorem sc__law_cell_at : FnScope ["script", "k"] ["script", "k"] (defScope (top 4)) := ⟨rfl, rfl, rfl, by decide +kernel, rfl, by decide +kernel, by decide +kernel⟩
def sp__law_cell_at (K : PySem.W.Frag) : Sp := fun vs H Q _ => ∃ (a : Addr) (ns : List Int) (k : Int), vs = [.ref a, .int k] ∧ SqL K H a (ns.map V.int) ∧ 0 ≤ k ∧ Q (.int (cell ns k)) H
theorem ok__law_cell_at (d__law_cell_at : Dv K mg "_law_cell_at" (top 4) ["script", "k"]) (B : Bl mg) (C : Co mg) (R : Er K mg)  : FnOk P w K mg base CX0 1 d__law_cell_at.f d__law_cell_at.fd ["script", "k"] (sp__law_cell_at K) := by
  refine d__law_cell_at.F.ok sc__law_cell_at (fun vs H Q E h => ?_) (fun cdv A outer s H vs Q E hr h => ?_)
  · obtain ⟨_, _, _, rfl, _⟩ := h; rfl
  obtain ⟨a, ns, k, rfl, hS, h0, q⟩ := h
  refine ⟨_, (pss_cons (ps_if (pt_cmpR op_lt (pv 1) (pe_callB call_len_seq rfl B.b_len PySem.boot_len (pa_cons (pv 0) pa_nil)) (nomark _)) (pss_one (ps_ret (pe_ix ix_list (pv 0) (pv 1) (fun _ _ => rfl)))) pss_nil) (pss_one (ps_ret pe_int))), ?_⟩
  have hl : (ns.map V.int).length = ns.length := List.length_map _
  refine ⟨_, rfl, _, rfl, a, _, rfl, .inl hS, _, _, rfl, rfl, _, rfl, ?_⟩
  unfold cell at q
  refine ite2 (fun c => ?_) (fun c => ?_)
  · have c' : k < (ns.length : Int) := by simpa using c
    rw [if_pos c'] at q
    exact ⟨_, rfl, _, rfl, a, _, _, _, rfl, rfl, hS, at_cell h0 c', q⟩
  · have c' : ¬ k < (ns.length : Int) := by simpa using c
    rw [if_neg c'] at q
    exact q
theorem sc__law_name : FnScope ["k", "cell", "letters", "signs", "at", "more", "seed", "word"] ["k", "cell"] (defScope (top 5)) := ⟨rfl, rfl, rfl, by decide +kernel, rfl, by decide +kernel, by decide +kernel⟩
def sp__law_name (K : PySem.W.Frag) : Sp := fun vs H Q _ => ∃ (k c : Int), vs = [.int k, .int c] ∧ 0 ≤ k ∧ k < 1000 ∧ ∀ (z : Str) (H' : Hp), Same H H' → z.length ≤ 25 → Tell c z (k % 26).toNat → Q (.str z) H'
theorem ok__law_name (d__law_name : Dv K mg "_law_name" (top 5) ["k", "cell"]) (B : Bl mg) (C : Co mg) (R : Er K mg)  : FnOk P w K mg base CX0 1 d__law_name.f d__law_name.fd ["k", "cell"] (sp__law_name K) := by
  refine d__law_name.F.ok sc__law_name (fun vs H Q E h => ?_) (fun cdv A outer s H vs Q E hr h => ?_)
  · obtain ⟨_, _, rfl, _⟩ := h; rfl
  obtain ⟨k, c, rfl, h0, h1, q⟩ := h
  refine ⟨_, (pss_cons (ps_set (i := 2) sc__law_name.nd rfl (Or.inl rfl) pe_str) (pss_cons (ps_set (i := 3) sc__law_name.nd rfl (Or.inr rfl) (pe_op op_add_str (pv 2) pe_str)) (pss_cons (ps_set (i := 4) sc__law_name.nd rfl (Or.inl rfl) (pe_op op_mod (pv 1) pe_int)) (pss_cons (ps_set (i := 5) sc__law_name.nd rfl (Or.inl rfl) (pe_op op_mod (pe_op op_fdiv (pv 1) pe_int) (pe_op op_sub pe_int (pv 4)))) (pss_cons (ps_set (i := 6) sc__law_name.nd rfl (Or.inr rfl) (pe_op op_mod (pe_op op_fdiv (pv 1) pe_int) pe_int)) (pss_cut (ps_if (pt_cmpR op_eq (pe_op op_mod (pe_op op_fdiv (pv 1) pe_int) pe_int) pe_int (nomark _)) (pss_cons (ps_set (i := 6) sc__law_name.nd rfl (Or.inr rfl) (pe_op op_add (pe_op op_add (pv 6) (pe_op op_mul pe_int (pv 0))) (pe_op op_mul (pv 0) (pv 0)))) (pss_one (ps_set (i := 5) sc__law_name.nd rfl (Or.inl rfl) (pe_op op_mod (pe_op op_add (pv 5) (pv 0)) (pe_op op_sub pe_int (pv 4)))))) pss_nil) (pss_cons (ps_set (i := 7) sc__law_name.nd rfl (Or.inl rfl) (pe_op op_add_str (pe_ix ix_str (pv 2) (pe_op op_mod (pv 6) pe_int) (fun _ _ => rfl)) (pe_bm PySem.F.plainAttrs_str PySem.F.slot_str_join PySem.F.type_str_join mt_join pe_str (pa_cons (pe_lc (N := ["k", "cell", "letters", "signs", "at", "more", "seed", "word"]) (sc := defScope (top 5)) ⟨by decide +kernel, rfl, rfl, by decide +kernel, by decide +kernel, by decide +kernel, by decide +kernel⟩ rfl rfl rfl (pi_range2 rfl B.b_range (pa_cons pe_int (pa_cons pe_int pa_nil))) (fun _ _ _ _ _ => pif_nil) (fun _ _ _ _ _ => (pe_ix ix_str (pv 4) (pe_op op_mod (pe_op op_add (pv 7) (pe_op op_mul pe_int (pv 0))) pe_int) (fun _ _ => rfl)))) pa_nil)))) (pss_cons (ps_set (i := 7) sc__law_name.nd rfl (Or.inl rfl) (pe_slice sl_str (pv 7) po_none (po_some (pe_op op_add (pv 4) (pv 5))))) (pss_one (ps_ret (pe_op op_add_str (pe_op op_add_str (pe_slice sl_str (pv 7) po_none (po_some (pv 4))) (pe_ix ix_str (pv 2) (pe_op op_mod (pv 0) pe_int) (fun _ _ => rfl))) (pe_slice sl_str (pv 7) (po_some (pv 4)) po_none)))))))))))), ?_⟩
  refine ⟨_, rfl, LET, FIG, rfl, rfl, szOk (by decide +kernel), ?_⟩
  refine ⟨_, rfl, _, _, rfl, rfl, (by walk_at "side"), ?_⟩
  refine ⟨_, rfl, _, _, rfl, rfl, ⟨by decide, by decide⟩, _, rfl, _, _, rfl, rfl, _, _, rfl, rfl, (by show (0 : Int) < _; omega), ?_⟩
  refine ⟨_, rfl, _, _, rfl, rfl, ⟨by decide, by decide⟩, _, _, rfl, rfl, (by walk_at "side"), ?_⟩
  refine ⟨fun σ' H' => ∃ sd mo : Int, σ' = [some (.int k), some (.int c), some (.str LET), some (.str (LET ++ FIG)), some (.int (c % 12)), some (.int mo), some (.int sd), none] ∧ H = H' ∧ 0 ≤ mo ∧ mo < 12 - c % 12, ?_, ?_⟩
  · refine ⟨_, rfl, _, _, rfl, rfl, ⟨by decide, by decide⟩, _, _, rfl, rfl, (by walk_at "side"), rfl, _, rfl, ?_⟩
    refine ite2 (fun _ => ?_) (fun _ => ?_)
    · exact ⟨_, rfl, _, rfl, _, _, rfl, rfl, .inl ⟨by decide, by decide⟩, _, _, rfl, rfl, _, rfl, _, rfl, _, _, rfl, rfl, .inl ⟨by omega, by omega⟩, _, _, rfl, rfl, _, rfl, _, rfl, _, _, rfl, rfl, _, rfl, _, _, rfl, rfl, _, _, rfl, rfl, (by show (0 : Int) < _; omega), _, _, rfl, rfl, Int.emod_nonneg _ (by omega), Int.emod_lt_of_pos _ (by omega)⟩
    · exact ⟨_, _, rfl, rfl, Int.emod_nonneg _ (by omega), Int.emod_lt_of_pos _ (by omega)⟩
  rintro _ _ ⟨sd, mo, rfl, rfl, mo0, mo1⟩
  refine ⟨_, rfl, _, rfl, _, _, rfl, rfl, (by walk_at "side"), LET, _, _, rfl, rfl, let_ok, at_sgn2 (by omega) (by rw [let_sz]; omega), rfl, 1, 12, rfl, ⟨by decide, by decide, by decide, by decide⟩, ?_⟩
  refine comp_val (n := 11) (val := fun i => .int (1 + (i : Int))) (fun v => match v with | .int j => .str ⟨#[(LET ++ FIG).cps.getD ((sd + 7 * j) % 36).toNat 0]⟩ | v => v) (by walk_at "sz") (fun i H' hi sm R hR => ?_) (fun H' sm l hl => ?_)
  · refine ⟨rfl, _, rfl, _, rfl, _, rfl, _, _, rfl, rfl, .inl ⟨by decide, by decide⟩, _, _, rfl, rfl, _, _, rfl, rfl, (by walk_at "side"), LET ++ FIG, _, _, rfl, rfl, sgs_ok, at_sgn2 (by omega) (by rw [sgs_sz]; omega), hR _ (Same.refl _)⟩
  refine ⟨Str.ofString "", l, (List.range 11).map (sgnAt sd), rfl, rfl, .inl (.inl (by rw [upd_same, List.map_map]; rfl)), by rw [show ((List.range 11).map (sgnAt sd)).map (fun x => x.length) = (List.range 11).map (fun _ => 1) by rw [List.map_map]; rfl, List.length_map]; decide +kernel, ?_⟩
  have hj : (Txt.join (Str.ofString "") ((List.range 11).map (sgnAt sd))).length = 11 := by
    rw [PySem.W.KT.join_ones _ (fun a ha => ?_)]
    · simp
    · obtain ⟨i, _, rfl⟩ := List.mem_map.mp ha
      rfl
  generalize hJ : Txt.join (Str.ofString "") ((List.range 11).map (sgnAt sd)) = J at hj
  have sm1 := same_upd' (u := .lst ((List.range 11).map fun (i : Nat) => (fun v : V => match v with | .int j => V.str ⟨#[(LET ++ FIG).cps.getD ((sd + 7 * j) % 36).toNat 0]⟩ | v => v) (.int (1 + (i : Int))))) sm hl
  refine ⟨_, J, rfl, by rw [← hJ], ?_, ?_⟩
  · rw [one_sz, hj]; exact szOk (by decide)
  generalize hW : Str.mk #[LET.cps.getD (sd % 26).toNat 0] ++ J = W
  have lW : W.length = 12 := by rw [← hW, Str.length_append, one_sz, hj]
  refine ⟨V.str W, by rw [← hW]; rfl, _, rfl, _, rfl, _, _, rfl, rfl, _, rfl, W, rfl, szOk (by omega), ?_⟩
  have lV := Txt.slice_le W none (some (c % 12 + mo))
  generalize hV : Txt.slice W none (some (c % 12 + mo)) = V0 at lV
  refine ⟨V.str V0, by rw [← hV]; rfl, _, rfl, _, rfl, V0, rfl, szOk (by omega), ?_⟩
  have lA := Txt.slice_le V0 none (some (c % 12))
  refine ⟨_, rfl, _, rfl, _, _, rfl, rfl, (by walk_at "side"), LET, _, _, rfl, rfl, let_ok, at_sgn2 (by omega) (by rw [let_sz]; omega), _, _, rfl, rfl, ?_, ?_⟩
  · rw [one_sz]; exact szOk (by omega)
  have lB := Txt.slice_le V0 (some (c % 12)) none
  refine ⟨V.str V0, by rw [← hV]; rfl, _, rfl, _, rfl, V0, rfl, szOk (by omega), _, _, rfl, rfl, ?_, q _ _ sm1 ?_ ?_⟩
  · rw [Str.length_append, one_sz]; exact szOk (by omega)
  · rw [Str.length_append, Str.length_append, one_sz]; omega
  · rw [← hV]
    exact name_at lW (by omega) mo0 (by omega)
theorem sc__law_deeds : FnScope ["script", "many", "deeds", "cell", "mixed", "debtor", "step", "amount"] ["script", "many"] (defScope (top 6)) := ⟨rfl, rfl, rfl, by decide +kernel, rfl, by decide +kernel, by decide +kernel⟩
def sp__law_deeds (K : PySem.W.Frag) : Sp := fun vs H Q _ => ∃ (a : Addr) (ns : List Int) (m : Nat), vs = [.ref a, .int m] ∧ SqL K H a (ns.map V.int) ∧ ns.length ≤ 63 ∧ (∀ n ∈ ns, Bts n) ∧ 3 ≤ m ∧ m ≤ 8 ∧ ∀ (H' : Hp) (l : Addr) (ds : List DE), Same H H' → H l = none → H' l = some (.lst (ds.map re)) → Des m H' ds → ds.length ≤ 63 → Q (.ref l) H'
theorem ok__law_deeds (d__law_deeds : Dv K mg "_law_deeds" (top 6) ["script", "many"]) (B : Bl mg) (C : Co mg) (R : Er K mg) (d__law_cell_at : Dv K mg "_law_cell_at" (top 4) ["script", "k"]) (G__law_cell_at : FnOk P w K mg base CX0 1 d__law_cell_at.f d__law_cell_at.fd ["script", "k"] (sp__law_cell_at K)) : FnOk P w K mg base CX0 2 d__law_deeds.f d__law_deeds.fd ["script", "many"] (sp__law_deeds K) := by
  refine d__law_deeds.F.ok sc__law_deeds (fun vs H Q E h => ?_) (fun cdv A outer s H vs Q E hr h => ?_)
  · obtain ⟨_, _, _, rfl, _⟩ := h; rfl
  obtain ⟨a, ns, m, rfl, hS, hl, hB, m3, m8, q⟩ := h
  refine ⟨_, (pss_cons (ps_set (i := 2) sc__law_deeds.nd rfl (Or.inl rfl) (pe_lst pa_nil)) (pss_cons (ps_for PassesOwn.never rfl (pi_list (pe_slice sl_list (pv 0) (po_some pe_int) (po_some pe_int))) (pg_name (i := 3) sc__law_deeds.nd rfl (Or.inl rfl)) (pss_cons (ps_set (i := 4) sc__law_deeds.nd rfl (Or.inl rfl) (pe_op op_mod (pe_op op_mul (pv 3) pe_int) pe_int)) (pss_cons (ps_set (i := 5) sc__law_deeds.nd rfl (Or.inl rfl) (pe_op op_mod (pe_op op_mod (pv 4) pe_int) (pv 1))) (pss_cons (ps_set (i := 6) sc__law_deeds.nd rfl (Or.inl rfl) (pe_op op_add pe_int (pe_op op_mod (pe_op op_fdiv (pv 4) pe_int) (pe_op op_sub (pv 1) pe_int)))) (pss_cut (ps_if (PW.pt (pw_and (pt_cmpR op_eq (pe_op op_mod (pe_call G__law_cell_at (hr.mono (by decide)) rfl d__law_cell_at.m d__law_cell_at.F.kp d__law_cell_at.b .nil pass0 (pa_cons (pv 0) (pa_cons pe_int pa_nil))) pe_int) pe_int (nomark _)) (pw_and1 (pt_cmpR op_gt (pe_op op_mod (pe_op op_fdiv (pv 4) pe_int) pe_int) pe_int (nomark _))))) (pss_one (ps_set (i := 6) sc__law_deeds.nd rfl (Or.inl rfl) pe_int)) pss_nil) (pss_cons (ps_set (i := 7) sc__law_deeds.nd rfl (Or.inl rfl) (pe_op op_mod (pe_op op_fdiv (pv 4) pe_int) pe_int)) (pss_cut (ps_if (pt_cmpR op_eq (pe_op op_mod (pe_op op_fdiv (pv 4) pe_int) pe_int) pe_int (nomark _)) (pss_one (ps_set (i := 7) sc__law_deeds.nd rfl (Or.inl rfl) (pe_op op_mod (pe_op op_add (pe_op op_mulW (pv 3) (pv 3)) (pv 4)) (pe_op op_pow pe_int pe_int)))) pss_nil) (pss_one (ps_expr (pe_bm PySem.F.plainAttrs_list PySem.F.slot_list_append PySem.F.type_list_append mt_append (pv 2) (pa_cons (pe_tup (pa_cons (pv 5) (pa_cons (pe_op op_mod (pe_op op_add (pv 5) (pv 6)) (pv 1)) (pa_cons (pv 7) pa_nil)))) pa_nil))))))))))) (pss_one (ps_ret (pv 2))))), ?_⟩
  refine ⟨by walk_at "sz", fun L hL => ?_⟩
  have s1 := same_upd (u := .lst []) hL
  have kL := upd_same (H := H) (a := L) (o := .lst [])
  generalize upd H L (.lst []) = H1 at s1 kL
  refine ⟨_, rfl, _, rfl, _, rfl, a, _, rfl, s1.seq hS, fun p hp => ?_⟩
  
  have ec := cut_ints ns (some 2) (some 62)
  generalize hcs : (ns.drop (HT.sIx ns.length 0 (some 2))).take (HT.sIx ns.length ns.length (some 62) - HT.sIx ns.length 0 (some 2)) = cs at ec
  have hc : cs.length ≤ 63 := by rw [← hcs, List.length_take, List.length_drop]; omega
  have hcb : ∀ c ∈ cs, Bts c := fun c hc' => hB c (List.mem_of_mem_drop (List.mem_of_mem_take (hcs ▸ hc')))
  rw [ec]
  have s2 := same_upd' (u := .lst (cs.map V.int)) s1 hp
  have kp := upd_same (H := H1) (a := p) (o := .lst (cs.map V.int))
  have kL2 := at_upd (u := .lst (cs.map V.int)) kL hp
  have nLp : p ≠ L := fun z => by rw [z, kL] at hp; cases hp
  generalize upd H1 p (.lst (cs.map V.int)) = H2 at s2 kp kL2
  refine ⟨p, rfl, ⟨_, .inl (.inl kp)⟩, ?_⟩
  refine for_list (K := K) (a := p) (xs := cs.map V.int) (fun i σ H' => ∃ (ds : List DE) (v3 v4 v5 v6 v7 : Option V), Same H H' ∧ H' p = some (.lst (cs.map V.int)) ∧ H' L = some (.lst (ds.map re)) ∧ Des m H' ds ∧ ds.length = i ∧ σ = [some (.ref a), some (.int m), some (.ref L), v3, v4, v5, v6, v7]) ⟨[], none, none, none, none, none, s2, kp, kL2, (fun _ z => by cases z), rfl, rfl⟩ (fun i σ H' _ z => ?_) (fun i x σ H' hx z => ?_) (fun σ H' z => ?_)
  · obtain ⟨_, _, _, _, _, _, _, h, _⟩ := z
    exact .inl (.inl h)
  rotate_left
  · obtain ⟨ds, v3, v4, v5, v6, v7, s3, kp3, kL3, hD, hn, rfl⟩ := z
    rw [List.length_map] at hn
    exact ⟨_, rfl, q _ L ds s3 hL kL3 hD (by omega)⟩
  obtain ⟨ds, v3, v4, v5, v6, v7, s3, kp3, kL3, hD, hn, rfl⟩ := z
  obtain ⟨c, rfl, hc1⟩ := get_map_int hx
  have cb := hcb c (List.mem_of_getElem? hc1)
  have il : i < cs.length := (List.getElem?_eq_some_iff.mp hc1).1
  refine ⟨_, rfl, _, _, rfl, rfl, .inr ⟨by decide, by decide⟩, _, _, rfl, rfl, (by walk_at "side"), ?_⟩
  refine ⟨_, rfl, _, _, rfl, rfl, (by walk_at "side"), _, rfl, _, _, rfl, rfl, (by show (0 : Int) < _; omega), ?_⟩
  refine ⟨_, rfl, _, _, rfl, rfl, ⟨by decide, by decide⟩, _, rfl, _, _, rfl, rfl, _, _, rfl, rfl, (by show (0 : Int) < _; omega), _, _, rfl, rfl, ?_⟩
  dsimp only
  have mx0 : 0 ≤ c * 48271 % 2147483647 := Int.emod_nonneg _ (by decide)
  generalize c * 48271 % 2147483647 = mx at mx0
  obtain ⟨dn, ed, dl⟩ : ∃ dn : Nat, mx % 8 % (m : Int) = (dn : Int) ∧ dn < m := by
    have h1 := Int.emod_nonneg (mx % 8) (show (m : Int) ≠ 0 by omega)
    have h2 := Int.emod_lt_of_pos (mx % 8) (show (0 : Int) < m by omega)
    exact ⟨(mx % 8 % (m : Int)).toNat, by omega, by omega⟩
  rw [ed]
  have st0 : 1 ≤ 1 + mx / 8 % ((m : Int) - 1) := by have := Int.emod_nonneg (mx / 8) (show (m : Int) - 1 ≠ 0 by omega); omega
  have st1 : 1 + mx / 8 % ((m : Int) - 1) < m := by have := Int.emod_lt_of_pos (mx / 8) (show (0 : Int) < m - 1 by omega); omega
  generalize 1 + mx / 8 % ((m : Int) - 1) = sp0 at st0 st1
  refine ⟨fun σ' H2' => ∃ st : Int, 1 ≤ st ∧ st < m ∧ H' = H2' ∧ σ' = [some (.ref a), some (.int m), some (.ref L), some (.int c), some (.int mx), some (.int dn), some (.int st), v7], ?_, ?_⟩
  · refine ⟨_, rfl, a, ns, _, rfl, s3.seq hS, by decide, _, _, rfl, rfl, (by walk_at "side"), rfl, _, rfl, ite2 (fun c1 => ?_) (fun c1 => ?_)⟩
    · refine ⟨_, rfl, _, _, rfl, rfl, ⟨by decide, by decide⟩, _, _, rfl, rfl, (by walk_at "side"), _, _, rfl, rfl, _, rfl, ite2 (fun c2 => ?_) (fun c2 => ?_)⟩
      · exact ⟨1, by decide, by omega, rfl, rfl⟩
      · exact ⟨sp0, st0, st1, rfl, rfl⟩
    · exact iteF ⟨sp0, st0, st1, rfl, rfl⟩
  rintro _ _ ⟨st, t0, t1, rfl, rfl⟩
  refine ⟨_, rfl, _, _, rfl, rfl, ⟨by decide, by decide⟩, _, _, rfl, rfl, (by walk_at "side"), ?_⟩
  refine ⟨fun σ' H2' => ∃ am : Int, 0 ≤ am ∧ H' = H2' ∧ σ' = [some (.ref a), some (.int m), some (.ref L), some (.int c), some (.int mx), some (.int dn), some (.int st), some (.int am)], ?_, ?_⟩
  · refine ⟨_, rfl, _, _, rfl, rfl, ⟨by decide, by decide⟩, _, _, rfl, rfl, (by walk_at "side"), rfl, _, rfl, ite2 (fun c1 => ?_) (fun c1 => ?_)⟩
    · exact ⟨_, rfl, _, rfl, _, _, rfl, rfl, .inr ⟨cb, cb⟩, _, rfl, _, _, rfl, rfl, _, _, rfl, rfl, ⟨by decide, by decide, by decide⟩, _, _, rfl, rfl, (by show (0 : Int) < _; decide), _, Int.emod_nonneg _ (by decide), rfl, rfl⟩
    · exact ⟨_, Int.emod_nonneg _ (by decide), rfl, rfl⟩
  rintro _ _ ⟨am, am0, rfl, rfl⟩
  obtain ⟨cn, en, cl, cd⟩ : ∃ cn : Nat, ((dn : Int) + st) % (m : Int) = (cn : Int) ∧ cn < m ∧ dn ≠ cn := by
    have e : ((dn : Int) + st) % (m : Int) = if (dn : Int) + st < m then (dn : Int) + st else (dn : Int) + st - m := by
      split
      · exact Int.emod_eq_of_lt (by omega) (by assumption)
      · rw [← Int.sub_emod_right]
        exact Int.emod_eq_of_lt (by omega) (by omega)
    rw [e]
    split
    · exact ⟨((dn : Int) + st).toNat, by omega, by omega, by omega⟩
    · exact ⟨((dn : Int) + st - m).toNat, by omega, by omega, by omega⟩
  refine ⟨_, rfl, .inl ⟨rfl, _, .inl (.inl kL3)⟩, _, rfl, _, rfl, _, rfl, _, _, rfl, rfl, _, rfl, _, _, rfl, rfl, (by show (0 : Int) < _; omega), _, rfl, ?_⟩
  dsimp only
  rw [en]
  refine ⟨by walk_at "sz", fun t ht => ?_⟩
  have u1 := same_upd (u := .tup [V.int dn, V.int cn, V.int am]) ht
  refine ⟨L, _, _, rfl, rfl, u1 _ _ kL3, by rw [List.length_map]; exact szLt (by omega), ?_⟩
  refine ⟨ds ++ [(t, dn, cn, am)], _, _, _, _, _, same_updN (s3.trans u1) hL, ?_, ?_, ?_, ?_, rfl⟩
  · exact upd_oth (u1 _ _ kp3) nLp
  · rw [upd_same, List.map_append]; rfl
  · intro y hy
    have nt : t ≠ L := fun z => by rw [z, kL3] at ht; cases ht
    rcases List.mem_append.mp hy with hy | hy
    · obtain ⟨h1, h2⟩ := hD y hy
      refine ⟨upd_oth (u1 _ _ h1) fun z => ?_, h2⟩
      rw [z, kL3] at h1
      cases h1
    · rw [List.mem_singleton.mp hy]
      exact ⟨upd_oth upd_same nt, dl, cl, cd, am0⟩
  · rw [List.length_append, hn]; rfl
theorem sc__law_plain : FnScope ["found", "due"] ["found", "due"] (defScope (top 8)) := ⟨rfl, rfl, rfl, by decide +kernel, rfl, by decide +kernel, by decide +kernel⟩
def sp__law_plain (K : PySem.W.Frag) : Sp := fun vs H Q _ => ∃ (x : V), vs = [x, x] ∧ plainV x = true ∧ Q (.bl true) H
theorem ok__law_plain (d__law_plain : Dv K mg "_law_plain" (top 8) ["found", "due"]) (B : Bl mg) (C : Co mg) (R : Er K mg)  : FnOk P w K mg base CX0 1 d__law_plain.f d__law_plain.fd ["found", "due"] (sp__law_plain K) := by
  refine d__law_plain.F.ok sc__law_plain (fun vs H Q E h => ?_) (fun cdv A outer s H vs Q E hr h => ?_)
  · obtain ⟨_, rfl, _⟩ := h; rfl
  obtain ⟨x, rfl, hx, q⟩ := h
  refine ⟨_, (pss_cons (ps_if (pt_val (pe_callB call_isinst rfl B.b_isinstance PyProof.Rows.boot_isinstance (pa_cons (pv 1) (pa_cons (pe_bltn (v := .ty "str") rfl B.b_str PyProof.Rows.boot_str rfl) pa_nil))) (fun _ => rfl)) (pss_one (ps_ret (pe_and (pe_callB call_isinst rfl B.b_isinstance PyProof.Rows.boot_isinstance (pa_cons (pv 0) (pa_cons (pe_bltn (v := .ty "str") rfl B.b_str PyProof.Rows.boot_str rfl) pa_nil))) (pe_one (pe_cmpR op_eq (pv 0) (pv 1) (nomark _)))))) pss_nil) (pss_one (ps_ret (pe_and (pe_callB call_isinst rfl B.b_isinstance PyProof.Rows.boot_isinstance (pa_cons (pv 0) (pa_cons (pe_bltn (v := .ty "int") rfl B.b_int PyProof.Rows.boot_int rfl) pa_nil))) (pe_and (pe_not (pe_callB call_isinst rfl B.b_isinstance PyProof.Rows.boot_isinstance (pa_cons (pv 0) (pa_cons (pe_bltn (v := .ty "bool") rfl B.b_bool PyProof.Rows.boot_bool rfl) pa_nil)))) (pe_one (pe_cmpR op_eq (pv 0) (pv 1) (nomark _)))))))), ?_⟩
  cases x with
  | str z =>
    refine ⟨_, rfl, _, _, _, _, true, rfl, .str z, rfl, rfl, true, rfl, iteT ?_⟩
    refine ⟨_, rfl, _, _, _, _, true, rfl, .str z, rfl, rfl, true, rfl, iteT ⟨_, rfl, _, rfl, rfl, ?_⟩⟩
    simpa using q
  | int i =>
    refine ⟨_, rfl, _, _, _, _, false, rfl, .int i, rfl, rfl, false, rfl, iteF ?_⟩
    refine ⟨_, rfl, _, _, _, _, true, rfl, .int i, rfl, rfl, true, rfl, iteT ?_⟩
    refine ⟨_, rfl, _, _, _, _, false, rfl, .int i, rfl, rfl, false, rfl, _, rfl, iteT ⟨_, rfl, _, rfl, rfl, ?_⟩⟩
    simpa using q
  | _ => exact absurd (show false = true from hx) Bool.false_ne_true
theorem sc__law_row : FnScope ["found", "due", "k"] ["found", "due"] (defScope (top 9)) := ⟨rfl, rfl, rfl, by decide +kernel, rfl, by decide +kernel, by decide +kernel⟩
def sp__law_row (K : PySem.W.Frag) : Sp := fun vs H Q _ => ∃ (f d : Addr) (xs : List V), vs = [.ref f, .ref d] ∧ H f = some (.tup xs) ∧ H d = some (.tup xs) ∧ xs.all plainV = true ∧ xs.length ≤ 100 ∧ Q (.bl true) H
theorem ok__law_row (d__law_row : Dv K mg "_law_row" (top 9) ["found", "due"]) (B : Bl mg) (C : Co mg) (R : Er K mg) (d__law_plain : Dv K mg "_law_plain" (top 8) ["found", "due"]) (G__law_plain : FnOk P w K mg base CX0 1 d__law_plain.f d__law_plain.fd ["found", "due"] (sp__law_plain K)) : FnOk P w K mg base CX0 2 d__law_row.f d__law_row.fd ["found", "due"] (sp__law_row K) := by
  refine d__law_row.F.ok sc__law_row (fun vs H Q E h => ?_) (fun cdv A outer s H vs Q E hr h => ?_)
  · obtain ⟨_, _, _, rfl, _⟩ := h; rfl
  obtain ⟨f, d, xs, rfl, hf, hd, hp, hl, q⟩ := h
  refine ⟨_, (pss_cons (ps_if (PW.pt (pw_or (pt_not (pt_val (pe_callB call_isinst rfl B.b_isinstance PyProof.Rows.boot_isinstance (pa_cons (pv 0) (pa_cons (pe_bltn (v := .ty "tuple") rfl B.b_tuple PyProof.Rows.boot_tuple rfl) pa_nil))) (fun _ => rfl))) (pw_or1 (pt_cmpR op_ne (pe_callB call_len_seq rfl B.b_len PySem.boot_len (pa_cons (pv 0) pa_nil)) (pe_callB call_len_seq rfl B.b_len PySem.boot_len (pa_cons (pv 1) pa_nil)) (nomark _))))) (pss_one (ps_ret pe_bl)) pss_nil) (pss_cons (ps_for PassesOwn.never rfl (pi_range1 rfl B.b_range (pa_cons (pe_callB call_len_seq rfl B.b_len PySem.boot_len (pa_cons (pv 1) pa_nil)) pa_nil)) (pg_name (i := 2) sc__law_row.nd rfl (Or.inl rfl)) (pss_one (ps_if (pt_not (pt_val (pe_call G__law_plain (hr.mono (by decide)) rfl d__law_plain.m d__law_plain.F.kp d__law_plain.b .nil pass0 (pa_cons (pe_ix ix_tup (pv 0) (pv 2) (fun _ _ => rfl)) (pa_cons (pe_ix ix_tup (pv 1) (pv 2) (fun _ _ => rfl)) pa_nil))) (fun _ => rfl))) (pss_one (ps_ret pe_bl)) pss_nil))) (pss_one (ps_ret pe_bl)))), ?_⟩
  refine ⟨_, rfl, _, _, _, _, true, rfl, .tup hf, rfl, rfl, _, rfl, iteF ?_⟩
  refine ⟨_, rfl, f, _, rfl, .inr (.inl (.inl hf)), _, rfl, d, _, rfl, .inr (.inl (.inl hd)), rfl, _, rfl, iteNS rfl ?_⟩
  refine ⟨_, rfl, d, _, rfl, .inr (.inl (.inl hd)), _, rfl, by omega, by omega, ?_⟩
  refine for_range (lo := 0) (fun _ σ H' => H = H' ∧ ∃ v2, σ = [some (.ref f), some (.ref d), v2]) ⟨rfl, none, rfl⟩ (fun i σ H' hi z => ?_) (fun σ H' z => ?_)
  · obtain ⟨rfl, v2, rfl⟩ := z
    have hi' : i < xs.length := by omega
    have ax : atI xs (0 + (i : Int)) = some xs[i] := by rw [Int.zero_add]; exact atI_nat (List.getElem?_eq_getElem hi')
    exact ⟨_, rfl, _, rfl, f, _, _, _, rfl, rfl, .inl (.inl hf), ax, _, rfl, _, rfl, d, _, _, _, rfl, rfl, .inl (.inl hd), ax, xs[i], rfl, List.all_eq_true.mp hp _ (List.getElem_mem hi'), _, rfl, iteF ⟨rfl, _, rfl⟩⟩
  · obtain ⟨rfl, v2, rfl⟩ := z
    exact q
theorem sc__law_rows : FnScope ["found", "due", "k"] ["found", "due"] (defScope (top 10)) := ⟨rfl, rfl, rfl, by decide +kernel, rfl, by decide +kernel, by decide +kernel⟩
def sp__law_rows (K : PySem.W.Frag) : Sp := fun vs H Q _ => ∃ (f d : Addr) (fs ds : List (Addr × List V)), vs = [.ref f, .ref d] ∧ H f = some (.lst (fs.map sr)) ∧ H d = some (.lst (ds.map sr)) ∧ Rws H fs ∧ Rws H ds ∧ fs.map (·.2) = ds.map (·.2) ∧ (∀ s ∈ ds, s.2.all plainV = true ∧ s.2.length ≤ 100) ∧ ds.length ≤ 2000000 ∧ Q (.bl true) H
theorem ok__law_rows (d__law_rows : Dv K mg "_law_rows" (top 10) ["found", "due"]) (B : Bl mg) (C : Co mg) (R : Er K mg) (d__law_row : Dv K mg "_law_row" (top 9) ["found", "due"]) (G__law_row : FnOk P w K mg base CX0 2 d__law_row.f d__law_row.fd ["found", "due"] (sp__law_row K)) : FnOk P w K mg base CX0 3 d__law_rows.f d__law_rows.fd ["found", "due"] (sp__law_rows K) := by
  refine d__law_rows.F.ok sc__law_rows (fun vs H Q E h => ?_) (fun cdv A outer s H vs Q E hr h => ?_)
  · obtain ⟨_, _, _, _, rfl, _⟩ := h; rfl
  obtain ⟨f, d, fs, ds, rfl, hf, hd, rf1, rd1, he, hp, hl, q⟩ := h
  refine ⟨_, (pss_cons (ps_if (PW.pt (pw_or (pt_not (pt_val (pe_callB call_isinst rfl B.b_isinstance PyProof.Rows.boot_isinstance (pa_cons (pv 0) (pa_cons (pe_bltn (v := .ty "list") rfl B.b_list PyProof.Rows.boot_list rfl) pa_nil))) (fun _ => rfl))) (pw_or1 (pt_cmpR op_ne (pe_callB call_len_seq rfl B.b_len PySem.boot_len (pa_cons (pv 0) pa_nil)) (pe_callB call_len_seq rfl B.b_len PySem.boot_len (pa_cons (pv 1) pa_nil)) (nomark _))))) (pss_one (ps_ret pe_bl)) pss_nil) (pss_cons (ps_for PassesOwn.never rfl (pi_range1 rfl B.b_range (pa_cons (pe_callB call_len_seq rfl B.b_len PySem.boot_len (pa_cons (pv 1) pa_nil)) pa_nil)) (pg_name (i := 2) sc__law_rows.nd rfl (Or.inl rfl)) (pss_one (ps_if (pt_not (pt_val (pe_call G__law_row (hr.mono (by decide)) rfl d__law_row.m d__law_row.F.kp d__law_row.b .nil pass0 (pa_cons (pe_ix ix_list (pv 0) (pv 2) (fun _ _ => rfl)) (pa_cons (pe_ix ix_list (pv 1) (pv 2) (fun _ _ => rfl)) pa_nil))) (fun _ => rfl))) (pss_one (ps_ret pe_bl)) pss_nil))) (pss_one (ps_ret pe_bl)))), ?_⟩
  have hlen : fs.length = ds.length := by have := congrArg List.length he; simpa using this
  have hlz : ((fs.map sr).length : Int) = ((ds.map sr).length : Int) := by rw [List.length_map, List.length_map, hlen]
  refine ⟨_, rfl, _, _, _, _, true, rfl, .lst hf, rfl, rfl, _, rfl, iteF ?_⟩
  refine ⟨_, rfl, f, _, rfl, .inl (.inl (.inl hf)), _, rfl, d, _, rfl, .inl (.inl (.inl hd)), rfl, _, rfl, iteNS (by rw [hlz]) ?_⟩
  refine ⟨_, rfl, d, _, rfl, .inl (.inl (.inl hd)), _, rfl, by omega, by rw [List.length_map]; omega, ?_⟩
  refine for_range (lo := 0) (fun _ σ H' => H = H' ∧ ∃ v2, σ = [some (.ref f), some (.ref d), v2]) ⟨rfl, none, rfl⟩ (fun i σ H' hi z => ?_) (fun σ H' z => ?_)
  · obtain ⟨rfl, v2, rfl⟩ := z
    have hi' : i < ds.length := by rw [List.length_map] at hi; omega
    have hif : i < fs.length := by omega
    have ax : atI (fs.map sr) (0 + (i : Int)) = some (sr fs[i]) := by rw [Int.zero_add]; exact atI_nat (by rw [List.getElem?_map, List.getElem?_eq_getElem hif]; rfl)
    have ay : atI (ds.map sr) (0 + (i : Int)) = some (sr ds[i]) := by rw [Int.zero_add]; exact atI_nat (by rw [List.getElem?_map, List.getElem?_eq_getElem hi']; rfl)
    have e2 : fs[i].2 = ds[i].2 := by
      have := congrArg (fun l => l[i]?) he
      simp only [List.getElem?_map, List.getElem?_eq_getElem hif, List.getElem?_eq_getElem hi', Option.map_some] at this
      exact Option.some.inj this
    have m1 := rf1 fs[i] (List.getElem_mem hif)
    rw [e2] at m1
    obtain ⟨p1, p2⟩ := hp ds[i] (List.getElem_mem hi')
    exact ⟨_, rfl, _, rfl, f, _, _, _, rfl, rfl, .inl (.inl hf), ax, _, rfl, _, rfl, d, _, _, _, rfl, rfl, .inl (.inl hd), ay, _, _, ds[i].2, rfl, m1, rd1 ds[i] (List.getElem_mem hi'), p1, p2, _, rfl, iteF ⟨rfl, _, rfl⟩⟩
  · obtain ⟨rfl, v2, rfl⟩ := z
    exact q
theorem sc__law_part_right : FnScope ["book", "sums", "debtor", "creditor", "amount"] ["book"] (defScope (top 11)) := ⟨rfl, rfl, rfl, by decide +kernel, rfl, by decide +kernel, by decide +kernel⟩
def sp__law_part_right (K : PySem.W.Frag) : Sp := fun vs H Q _ => ∃ (b : Addr) (ps : List TD), vs = [.ref b] ∧ H b = some (.lst (ps.map rd)) ∧ Tds H ps ∧ ps.length ≤ 900 ∧ (kn (vD ps)).length < 64 ∧ ∀ H', Same H H' → Q (.bl true) H'
theorem ok__law_part_right (d__law_part_right : Dv K mg "_law_part_right" (top 11) ["book"]) (B : Bl mg) (C : Co mg) (R : Er K mg) (d__law_rows : Dv K mg "_law_rows" (top 10) ["found", "due"]) (G__law_rows : FnOk P w K mg base CX0 3 d__law_rows.f d__law_rows.fd ["found", "due"] (sp__law_rows K)) (d_nets : Dv K mg "nets" (top 2) ["book"]) (G_nets : FnOk P w K mg base CX0 1 d_nets.f d_nets.fd ["book"] (sp_nets K)) : FnOk P w K mg base CX0 4 d__law_part_right.f d__law_part_right.fd ["book"] (sp__law_part_right K) := by
  refine d__law_part_right.F.ok sc__law_part_right (fun vs H Q E h => ?_) (fun cdv A outer s H vs Q E hr h => ?_)
  · obtain ⟨_, _, rfl, _⟩ := h; rfl
  obtain ⟨b, ps, rfl, hb, hD, hl, h64, q⟩ := h
  refine ⟨_, (pss_cons (ps_set (i := 1) sc__law_part_right.nd rfl (Or.inr rfl) pe_dnewK) (pss_cons (ps_for PassesOwn.never rfl (pi_list (pv 0)) (pg_tup rfl (pgs_cons (pg_name (i := 2) sc__law_part_right.nd rfl (Or.inl rfl)) (pgs_cons (pg_name (i := 3) sc__law_part_right.nd rfl (Or.inl rfl)) (pgs_cons (pg_name (i := 4) sc__law_part_right.nd rfl (Or.inl rfl)) pgs_nil)))) (pss_cons (ps_dput (hu1 hr.units) (pv 1) (pv 2) (pe_op op_sub (pe_dget2 (hu1 hr.units) (pv 1) (pv 2) pe_int ⟨rfl, rfl, rfl, rfl⟩) (pv 4)) rfl) (pss_one (ps_dput (hu1 hr.units) (pv 1) (pv 3) (pe_op op_add (pe_dget2 (hu1 hr.units) (pv 1) (pv 3) pe_int ⟨rfl, rfl, rfl, rfl⟩) (pv 4)) rfl)))) (pss_one (ps_ret (pe_call G__law_rows (hr.mono (by decide)) rfl d__law_rows.m d__law_rows.F.kp d__law_rows.b .nil pass0 (pa_cons (pe_call G_nets (hr.mono (by decide)) rfl d_nets.m d_nets.F.kp d_nets.b .nil pass0 (pa_cons (pe_callTy call_list_of rfl B.b_list PyProof.Rows.boot_list (pa_cons (pv 0) pa_nil)) pa_nil)) (pa_cons (pe_lc (N := ["book", "sums", "debtor", "creditor", "amount"]) (sc := defScope (top 11)) ⟨by decide +kernel, rfl, rfl, by decide +kernel, by decide +kernel, by decide +kernel, by decide +kernel⟩ rfl rfl rfl (pi_list (pe_callB (call_sortedK rfl) rfl B.b_sorted PyProof.Rows.boot_sorted (pa_cons (pv 1) pa_nil))) (fun _ _ _ _ _ => pif_nil) (fun _ _ _ _ _ => (pe_tup (pa_cons (pv 0) (pa_cons (pe_dget (hu1 hr.units) (pv 2) (pv 0) (fun _ _ => rfl)) pa_nil))))) pa_nil))))))), ?_⟩
  refine fun D hD0 => ?_
  have fD : H D = none := hD0
  have s1 := same_upd (u := .dK []) hD0
  have kD : upd H D (.dK []) D = some (.dK (dI (kn ((vD ps).take 0)))) := upd_same
  generalize upd H D (.dK []) = H1 at s1 kD
  refine ⟨_, rfl, b, rfl, ⟨_, .inl (.inl (s1 _ _ hb))⟩, ?_⟩
  refine for_list (K := K) (a := b) (xs := ps.map rd) (fun i σ H' => Same H H' ∧ H' D = some (.dK (dI (kn ((vD ps).take i)))) ∧ ∃ v2 v3 v4, σ = [some (.ref b), some (.ref D), v2, v3, v4]) ⟨s1, kD, none, none, none, rfl⟩ (fun i σ H' _ z => .inl (.inl (z.1 _ _ hb))) (fun i x σ H' hx z => ?_) (fun σ H' z => ?_)
  · obtain ⟨s2, kD, v2, v3, v4, rfl⟩ := z
    rw [List.getElem?_map] at hx
    obtain ⟨y, hy, rfl⟩ := Option.map_eq_some_iff.mp hx
    have ky := s2 _ _ (hD y (List.mem_of_getElem? hy))
    have il : i < ps.length := (List.getElem?_eq_some_iff.mp hy).1
    have tk : kn ((vD ps).take (i + 1)) = knF (kn ((vD ps).take i)) y.2 := by rw [vD_take ps i hy, kn_snoc]
    have lk := kn_len2 (vD ps) i
    generalize kn ((vD ps).take i) = ks at kD tk lk
    refine ⟨y.1, _, rfl, .inl (.inl ky), rfl, _, _, rfl, _, _, rfl, _, _, rfl, rfl, ?_⟩
    refine ⟨_, rfl, D, rfl, .inl ⟨_, .inl kD⟩, _, rfl, _, .inl ⟨_, Sum.inr y.2.1, .inl kD, rfl, rfl⟩, _, rfl, ?_⟩
    rw [dI_get]
    refine ⟨_, _, rfl, rfl, _, rfl, _, rfl, D, _, rfl, .inl ⟨_, Sum.inr y.2.1, kD, rfl, szLt (by rw [dI_len]; omega), rfl⟩, ?_⟩
    dsimp only
    rw [dI_put]
    have kD2 := upd_same (H := H') (a := D) (o := .dK (dI (putI ks y.2.1 (hvI ks y.2.1 - y.2.2.2))))
    have s3 := same_updN (u := .dK (dI (putI ks y.2.1 (hvI ks y.2.1 - y.2.2.2)))) s2 fD
    have l1 := putI_len1 ks y.2.1 (hvI ks y.2.1 - y.2.2.2)
    have ek : kn ((vD ps).take (i + 1)) = putI (putI ks y.2.1 (hvI ks y.2.1 - y.2.2.2)) y.2.2.1 (hvI (putI ks y.2.1 (hvI ks y.2.1 - y.2.2.2)) y.2.2.1 + y.2.2.2) := tk
    generalize putI ks y.2.1 (hvI ks y.2.1 - y.2.2.2) = k2 at kD2 s3 l1 ek
    generalize upd H' D (.dK (dI k2)) = H3 at kD2 s3
    refine ⟨_, rfl, D, rfl, .inl ⟨_, .inl kD2⟩, _, rfl, _, .inl ⟨_, Sum.inr y.2.2.1, .inl kD2, rfl, rfl⟩, _, rfl, ?_⟩
    rw [dI_get]
    refine ⟨_, _, rfl, rfl, _, rfl, _, rfl, D, _, rfl, .inl ⟨_, Sum.inr y.2.2.1, kD2, rfl, szLt (by rw [dI_len]; omega), rfl⟩, ?_⟩
    dsimp only
    rw [dI_put]
    refine ⟨same_updN s3 fD, ?_, _, _, _, rfl⟩
    rw [upd_same, ek]
  obtain ⟨s2, kD, v2', v3, v4, rfl⟩ := z
  rw [List.length_map, ← vD_len, List.take_length] at kD
  have ok := kn_ok (vD ps)
  refine ⟨_, rfl, b, _, rfl, .inl (.inl (.inl (s2 _ _ hb))), fun c1 hc1 => ?_⟩
  have s3 := same_upd (u := .lst (ps.map rd)) hc1
  refine ⟨c1, ps, rfl, upd_same, (hD.same s2).same s3, hl, h64, fun H4 l qs s4 fl kl hT pm pw => ?_⟩
  have kD := s4 _ _ (s3 _ _ kD)
  have s4 := s2.trans (s3.trans s4)
  refine ⟨_, rfl, D, (kn (vD ps)).map (fun p => (p.1, V.int p.2)), rfl, by rw [kD, dI_pairs], by rw [List.length_map]; exact h64, fun l5 ms fl5 pm5 pw5 => ?_⟩
  have s5 := same_upd (u := .lst (ms.map V.str)) fl5
  have k5 := upd_same (H := H4) (a := l5) (o := .lst (ms.map V.str))
  generalize upd H4 l5 (.lst (ms.map V.str)) = H5 at s5 k5
  have em : ((kn (vD ps)).map fun p => (p.1, V.int p.2)).map (·.1) = (kn (vD ps)).map (·.1) := by rw [List.map_map]; rfl
  rw [em] at pm5
  have lm : ms.length ≤ 64 := by rw [pm5.length_eq, List.length_map]; omega
  refine ⟨l5, rfl, ⟨_, .inl (.inl k5)⟩, ?_⟩
  refine comp_inv (K := K) (a := l5) (ps := ms) (r := V.str) (fun i ys H' => ∃ us : List T2, ys = us.map r2 ∧ Same H5 H' ∧ T2s H' us ∧ v2 us = (ms.take i).map (fun z => (z, hvI (kn (vD ps)) z)) ∧ us.length = i) ⟨[], rfl, Same.refl _, (fun _ z => by cases z), rfl, rfl⟩ (fun i ys H' z => ?_) (fun i ys H' z => ?_) (szOk (by omega)) (fun i x ys H' hx J => ?_) (fun ys H6 z => ?_)
  · obtain ⟨us, _, s, _⟩ := z
    exact .inl (.inl (s _ _ k5))
  · obtain ⟨us, rfl, _, _, _, hn⟩ := z
    rw [List.length_map]; exact Nat.le_of_eq hn
  · obtain ⟨us, rfl, s, hU, hv, hn⟩ := J
    have mx : x ∈ (kn (vD ps)).map (·.1) := pm5.mem_iff.mp (List.mem_of_getElem? hx)
    obtain ⟨p, hp, ep⟩ := List.mem_map.mp mx
    have dv : valV (dI (kn (vD ps))) (Sum.inr x) = some (V.int (hvI (kn (vD ps)) x)) := by
      have := dI_val ok.nd hp
      have h2 := hv_mem ok.nd hp
      rw [← ep, h2]
      exact this
    have kD6 := s _ _ (s5 _ _ kD)
    refine ⟨rfl, _, rfl, _, rfl, _, rfl, D, _, rfl, .inl ⟨_, Sum.inr x, .inl kD6, rfl, dv.symm⟩, by walk_at "sz", fun t ht => ?_⟩
    have st := same_upd (u := .tup [V.str x, V.int (hvI (kn (vD ps)) x)]) ht
    refine ⟨us ++ [(t, x, hvI (kn (vD ps)) x)], by rw [List.map_append]; rfl, s.trans st, fun y hy => ?_, ?_, by rw [List.length_append, hn]; rfl⟩
    · rcases List.mem_append.mp hy with hy | hy
      · exact st _ _ (hU y hy)
      · rw [List.mem_singleton.mp hy]; exact upd_same
    · unfold v2 at hv ⊢
      rw [List.map_append, hv, List.take_add_one, hx, List.map_append]
      rfl
  obtain ⟨us, rfl, s6, hU, hv, hn⟩ := z
  rw [List.take_length] at hv
  intro l7 fl7
  have s7 := same_upd' (u := .lst (us.map r2)) s6 fl7
  have sU := same_upd (u := .lst (us.map r2)) fl7
  have e : v2 qs = v2 us := by
    rw [hv]
    refine ks_ext pw (List.pairwise_map.mpr (pw5.imp fun {a b} h => h)) fun v => ?_
    rw [pm.mem_iff, List.mem_map]
    constructor
    · intro h
      obtain ⟨h1, h2⟩ := (hv_in ok.nd (z := v.1) (v := v.2)).mp h
      exact ⟨v.1, pm5.mem_iff.mpr h1, by rw [h2]⟩
    · rintro ⟨z, hz, rfl⟩
      exact (hv_in ok.nd).mpr ⟨pm5.mem_iff.mp hz, rfl⟩
  have lq : qs.length ≤ 64 := by
    have := congrArg List.length e
    unfold v2 at this
    rw [List.length_map, List.length_map] at this
    omega
  refine ⟨l, l7, qs.map t2r, us.map t2r, rfl, by rw [t2r_sr]; exact s7 _ _ (s5 _ _ kl), by rw [t2r_sr]; exact upd_same, t2r_rws ((hT.same s5).same s7), t2r_rws (hU.same sU), t2r_v e, t2r_pl _, by rw [List.length_map]; omega, q _ (s4.trans (s5.trans s7))⟩
theorem sc__law_book : FnScope ["deeds", "names", "table", "debtor", "creditor", "amount", "one", "other", "more", "rows", "pair"] ["deeds", "names"] (defScope (top 7)) := ⟨rfl, rfl, rfl, by decide +kernel, rfl, by decide +kernel, by decide +kernel⟩
def sp__law_book (K : PySem.W.Frag) : Sp := fun vs H Q _ => ∃ (d b : Addr) (ds : List DE) (nm : List Str), vs = [.ref d, .ref b] ∧ H d = some (.lst (ds.map re)) ∧ Des nm.length H ds ∧ H b = some (.lst (nm.map V.str)) ∧ nm.Nodup ∧ nm.length ≤ 8 ∧ ds.length ≤ 63 ∧ ∀ (H' : Hp) (l : Addr) (ps : List TD), Same H H' → H l = none → H' l = some (.lst (ps.map rd)) → Tds H' ps → BOk nm ds (vD ps) → ps.length ≤ 63 → Q (.ref l) H'
theorem ok__law_book (d__law_book : Dv K mg "_law_book" (top 7) ["deeds", "names"]) (B : Bl mg) (C : Co mg) (R : Er K mg)  : FnOk P w K mg base CX0 1 d__law_book.f d__law_book.fd ["deeds", "names"] (sp__law_book K) := by
  refine d__law_book.F.ok sc__law_book (fun vs H Q E h => ?_) (fun cdv A outer s H vs Q E hr h => ?_)
  · obtain ⟨_, _, _, _, rfl, _⟩ := h; rfl
  obtain ⟨d, b, ds, nm, rfl, hd, hDe, hb, nd, l8, l63, q⟩ := h
  refine ⟨_, (pss_cons (ps_set (i := 2) sc__law_book.nd rfl (Or.inl rfl) pe_dnewK) (pss_cons (ps_for PassesOwn.never rfl (pi_list (pv 0)) (pg_tup rfl (pgs_cons (pg_name (i := 3) sc__law_book.nd rfl (Or.inl rfl)) (pgs_cons (pg_name (i := 4) sc__law_book.nd rfl (Or.inl rfl)) (pgs_cons (pg_name (i := 5) sc__law_book.nd rfl (Or.inl rfl)) pgs_nil)))) (pss_cons (ps_set (i := 6) sc__law_book.nd rfl (Or.inl rfl) (pe_callB (call_min2 rfl) rfl B.b_min PyProof.Rows.boot_min (pa_cons (pv 3) (pa_cons (pv 4) pa_nil)))) (pss_cons (ps_set (i := 7) sc__law_book.nd rfl (Or.inl rfl) (pe_callB (call_max2 rfl) rfl B.b_max PyProof.Rows.boot_max (pa_cons (pv 3) (pa_cons (pv 4) pa_nil)))) (pss_cons (ps_set (i := 8) sc__law_book.nd rfl (Or.inl rfl) (pe_op op_mul (pv 5) (pe_op op_sub pe_int (pe_op op_mul pe_int (pe_callTy call_int1 rfl B.b_int PyProof.Rows.boot_int (pa_cons (pe_cmpR op_eq (pv 6) (pv 4) (nomark _)) pa_nil)))))) (pss_one (ps_dput (hu1 hr.units) (pv 2) (pe_op op_add (pe_op op_mul (pv 6) pe_int) (pv 7)) (pe_op op_add (pe_dget2 (hu1 hr.units) (pv 2) (pe_op op_add (pe_op op_mul (pv 6) pe_int) (pv 7)) pe_int ⟨rfl, rfl, rfl, rfl⟩) (pv 8)) rfl)))))) (pss_cons (ps_set (i := 9) sc__law_book.nd rfl (Or.inl rfl) (pe_lst pa_nil)) (pss_cons (ps_for PassesOwn.never rfl (pi_dict (pv 2)) (pg_name (i := 10) sc__law_book.nd rfl (Or.inl rfl)) (pss_cut (ps_if (pt_cmpR op_gt (pe_dget (hu1 hr.units) (pv 2) (pv 10) (fun _ _ => rfl)) pe_int (nomark _)) (pss_one (ps_expr (pe_bm PySem.F.plainAttrs_list PySem.F.slot_list_append PySem.F.type_list_append mt_append (pv 9) (pa_cons (pe_tup (pa_cons (pe_ix ix_list (pv 1) (pe_op op_fdiv (pv 10) pe_int) (fun _ _ => rfl)) (pa_cons (pe_ix ix_list (pv 1) (pe_op op_mod (pv 10) pe_int) (fun _ _ => rfl)) (pa_cons (pe_dget (hu1 hr.units) (pv 2) (pv 10) (fun _ _ => rfl)) pa_nil)))) pa_nil)))) pss_nil) (pss_one (ps_if (pt_cmpR op_lt (pe_dget (hu1 hr.units) (pv 2) (pv 10) (fun _ _ => rfl)) pe_int (nomark _)) (pss_one (ps_expr (pe_bm PySem.F.plainAttrs_list PySem.F.slot_list_append PySem.F.type_list_append mt_append (pv 9) (pa_cons (pe_tup (pa_cons (pe_ix ix_list (pv 1) (pe_op op_mod (pv 10) pe_int) (fun _ _ => rfl)) (pa_cons (pe_ix ix_list (pv 1) (pe_op op_fdiv (pv 10) pe_int) (fun _ _ => rfl)) (pa_cons (pe_un un_neg (pe_dget (hu1 hr.units) (pv 2) (pv 10) (fun _ _ => rfl))) pa_nil)))) pa_nil)))) pss_nil)))) (pss_one (ps_ret (pe_callB call_sortedD rfl B.b_sorted PyProof.Rows.boot_sorted (pa_cons (pv 9) pa_nil)))))))), ?_⟩
  refine fun D hD0 => ?_
  have fD : H D = none := hD0
  have s1 := same_upd (u := .dK []) hD0
  have kD : upd H D (.dK []) D = some (.dK (dJ [])) := upd_same
  generalize upd H D (.dK []) = H1 at s1 kD
  refine ⟨_, rfl, d, rfl, ⟨_, .inl (.inl (s1 _ _ hd))⟩, ?_⟩
  refine for_list (K := K) (a := d) (xs := ds.map re) (fun i σ H' => ∃ (T : List (Int × Int)) (v3 v4 v5 v6 v7 v8 : Option V), Same H H' ∧ H' D = some (.dK (dJ T)) ∧ TOk nm.length T ∧ T.length ≤ i ∧ (∀ k, k < nm.length → nT k T = sd k (ds.take i)) ∧ σ = [some (.ref d), some (.ref b), some (.ref D), v3, v4, v5, v6, v7, v8, none, none]) ⟨[], none, none, none, none, none, none, s1, kD, ⟨List.nodup_nil, fun _ z => by cases z⟩, Nat.le_refl _, fun _ _ => rfl, rfl⟩ (fun i σ H' _ z => ?_) (fun i x σ H' hx z => ?_) (fun σ H' z => ?_)
  · obtain ⟨_, _, _, _, _, _, _, s, _⟩ := z
    exact .inl (.inl (s _ _ hd))
  · obtain ⟨T, v3, v4, v5, v6, v7, v8, s2, kD, ok, lT, hn, rfl⟩ := z
    rw [List.getElem?_map] at hx
    obtain ⟨y, hy, rfl⟩ := Option.map_eq_some_iff.mp hx
    obtain ⟨ky, y1, y2, y3, y4⟩ := hDe y (List.mem_of_getElem? hy)
    have ky := s2 _ _ ky
    have il : i < ds.length := (List.getElem?_eq_some_iff.mp hy).1
    have st := fun k => sd_take k ds i hy
    obtain ⟨t, dn, cn, am⟩ := y
    dsimp only at ky y1 y2 y3 y4
    refine ⟨t, _, rfl, .inl (.inl ky), rfl, _, _, rfl, _, _, rfl, _, _, rfl, rfl, ?_⟩
    obtain ⟨o1, o2, mo, h12, h2m, em1, em2, hmo, hsd⟩ : ∃ (o1 o2 : Nat) (mo : Int), o1 < o2 ∧ o2 < nm.length ∧ (if (cn : Int) < (dn : Int) then (cn : Int) else (dn : Int)) = (o1 : Int) ∧ (if (cn : Int) > (dn : Int) then (cn : Int) else (dn : Int)) = (o2 : Int) ∧ am * (1 - 2 * (if decide (V.int (o1 : Int) = V.int (cn : Int)) = true then 1 else 0)) = mo ∧ ∀ k, sdF k (t, dn, cn, am) = cf k ((o1 : Int) * 26 + (o2 : Int)) * mo := by
      by_cases c : cn < dn
      · have e : decide (V.int (cn : Int) = V.int (cn : Int)) = true := decide_eq_true rfl
        refine ⟨cn, dn, -am, c, y1, if_pos (by omega), if_neg (by omega), by rw [e, if_pos rfl]; omega, fun k => ?_⟩
        rw [cf_at (by omega) (by omega)]
        unfold sdF
        dsimp only
        by_cases x : cn = k <;> by_cases z : dn = k <;> simp [x, z] <;> omega
      · have e : decide (V.int (dn : Int) = V.int (cn : Int)) = false := decide_eq_false fun z => by have := V.int.inj z; omega
        refine ⟨dn, cn, am, by omega, y2, if_neg (by omega), if_pos (by omega), by rw [e, if_neg Bool.false_ne_true]; omega, fun k => ?_⟩
        rw [cf_at (by omega) (by omega)]
        unfold sdF
        dsimp only
        by_cases x : cn = k <;> by_cases z : dn = k <;> simp [x, z] <;> omega
    refine ⟨_, rfl, _, rfl, _, _, rfl, ?_⟩
    rw [em1]
    refine ⟨_, rfl, _, rfl, _, _, rfl, ?_⟩
    rw [em2]
    refine ⟨_, rfl, _, rfl, _, rfl, rfl, .inr ⟨_, rfl, ?_⟩⟩
    obtain ⟨w1, ew, hw1⟩ : ∃ w1 : Int, (if decide (V.int (o1 : Int) = V.int (cn : Int)) = true then (1 : Int) else 0) = w1 ∧ (w1 = 0 ∨ w1 = 1) := ⟨_, rfl, by split <;> simp⟩
    rw [ew] at hmo
    rw [ew]
    refine ⟨_, _, rfl, rfl, .inr ⟨by omega, by omega⟩, _, _, rfl, rfl, _, _, rfl, rfl, .inr ⟨by omega, by omega⟩, ?_⟩
    dsimp only
    rw [hmo]
    refine ⟨_, rfl, D, rfl, .inl ⟨_, .inl kD⟩, _, rfl, _, _, rfl, rfl, .inr ⟨by decide, by decide⟩, _, rfl, _, _, rfl, rfl, _, .inl ⟨_, Sum.inl ((o1 : Int) * 26 + (o2 : Int)), .inl kD, rfl, rfl⟩, _, rfl, ?_⟩
    rw [dJ_get]
    refine ⟨_, _, rfl, rfl, _, rfl, _, rfl, _, _, rfl, rfl, .inr ⟨by decide, by decide⟩, _, rfl, _, _, rfl, rfl, D, _, rfl, .inl ⟨_, Sum.inl ((o1 : Int) * 26 + (o2 : Int)), kD, rfl, szLt (by rw [dJ_len]; omega), rfl⟩, ?_⟩
    dsimp only
    rw [dJ_put]
    have lp := putJ_len1 T ((o1 : Int) * 26 + (o2 : Int)) (hvJ T ((o1 : Int) * 26 + (o2 : Int)) + mo)
    refine ⟨_, _, _, _, _, _, _, same_updN s2 fD, upd_same, ⟨putJ_nd _ _ ok.nd, fun p hp => ?_⟩, by omega, fun k hk => ?_, rfl⟩
    · have := List.mem_map_of_mem (f := fun x : Int × Int => x.1) hp
      rcases putJ_mem.mp this with h | h
      · obtain ⟨q, hq, e⟩ := List.mem_map.mp h
        obtain ⟨a, b', h1, h2, h3⟩ := ok.ks q hq
        exact ⟨a, b', h1, h2, by rw [← h3]; exact e.symm⟩
      · exact ⟨o1, o2, h12, h2m, h⟩
    · rw [nT_put k _ _ ok.nd, hn k hk, st k, hsd k]
  obtain ⟨T, v3, v4, v5, v6, v7, v8, s2, kD, ok, lT, hn, rfl⟩ := z
  rw [List.length_map] at lT
  rw [List.length_map, List.take_length] at hn
  refine ⟨by walk_at "sz", fun L hL => ?_⟩
  have fL : H L = none := s2.free hL
  have nDL : D ≠ L := ne_of_none kD hL
  have s3 := same_upd' (u := .lst []) s2 hL
  have kL := upd_same (H := H') (a := L) (o := .lst [])
  have kD := at_upd (u := .lst []) kD hL
  generalize upd H' L (.lst []) = H3 at s3 kL kD
  refine ⟨_, rfl, D, dJ T, rfl, kD, fun ob => ?_⟩
  have s4 := same_updN (u := .frz ob (.dK (dJ T))) s3 fD
  have kL := upd_oth (u := .frz ob (.dK (dJ T))) kL (Ne.symm nDL)
  have kF := upd_same (H := H3) (a := D) (o := .frz ob (.dK (dJ T)))
  generalize upd H3 D (.frz ob (.dK (dJ T))) = H4 at s4 kL kF
  refine for_dict (d := D) (ob := ob) (kvs := dJ T) (fun i σ H' => ∃ (rs : List TD) (v10 : Option V), Same H H' ∧ H' D = some (.frz ob (.dK (dJ T))) ∧ H' L = some (.lst (rs.map rd)) ∧ Tds H' rs ∧ vD rs = (T.take i).flatMap (rw1 nm) ∧ rs.length ≤ i ∧ σ = [some (.ref d), some (.ref b), some (.ref D), v3, v4, v5, v6, v7, v8, some (.ref L), v10]) ⟨[], none, s4, kF, kL, (fun _ z => by cases z), rfl, Nat.le_refl _, rfl⟩ (fun i σ H' z => ?_) (fun i k v σ H' hx z => ?_) (fun σ H' z => ?_)
  · obtain ⟨_, _, _, h, _⟩ := z
    exact h
  · obtain ⟨rs, v10, s5, kF, kL, hT, hv, lr, rfl⟩ := z
    unfold dJ at hx
    rw [List.getElem?_map] at hx
    obtain ⟨y, hy, e⟩ := Option.map_eq_some_iff.mp hx
    cases e
    have my := List.mem_of_getElem? hy
    have dv := dJ_val ok.nd my
    obtain ⟨a, b', hab, hbm, ek⟩ := ok.ks y my
    have e1 : (y.1 / 26).toNat = a := by rw [ek]; omega
    have e2 : (y.1 % 26).toNat = b' := by rw [ek]; omega
    have ka : atI (nm.map V.str) (y.1 / 26) = some (V.str (nmA nm a)) := by
      rw [show y.1 / 26 = (a : Int) by omega]
      exact atI_nat (by rw [List.getElem?_map, nmA_get (by omega)]; rfl)
    have kb : atI (nm.map V.str) (y.1 % 26) = some (V.str (nmA nm b')) := by
      rw [show y.1 % 26 = (b' : Int) by omega]
      exact atI_nat (by rw [List.getElem?_map, nmA_get (by omega)]; rfl)
    have tk : (T.take (i + 1)).flatMap (rw1 nm) = vD rs ++ rw1 nm y := by
      rw [List.take_add_one, hy, List.flatMap_append, ← hv]
      show _ ++ (rw1 nm y ++ []) = _
      rw [List.append_nil]
    have hb5 := s5 _ _ hb
    have rl : rs.length ≤ 100 := by have := (List.getElem?_eq_some_iff.mp hy).1; omega
    have app : ∀ {Hx : Hp} {u : Addr} {x c : Str} {am : Int}, Same H Hx → Hx D = some (.frz ob (.dK (dJ T))) → Hx L = some (.lst (rs.map rd)) → Tds Hx rs → Hx u = none → Same H (upd (upd Hx u (.tup [.str x, .str c, .int am])) L (.lst (rs.map rd ++ [V.ref u]))) ∧ (upd (upd Hx u (.tup [.str x, .str c, .int am])) L (.lst (rs.map rd ++ [V.ref u]))) L = some (.lst ((rs ++ [((u, x, c, am) : TD)]).map rd)) ∧ Tds (upd (upd Hx u (.tup [.str x, .str c, .int am])) L (.lst (rs.map rd ++ [V.ref u]))) (rs ++ [((u, x, c, am) : TD)]) ∧ (upd (upd Hx u (.tup [.str x, .str c, .int am])) L (.lst (rs.map rd ++ [V.ref u]))) D = some (.frz ob (.dK (dJ T))) ∧ vD (rs ++ [((u, x, c, am) : TD)]) = vD rs ++ [(x, c, am)] := fun {Hx u x c am} sx kx kx2 hx hu => by
      have u1 := same_upd (u := .tup [V.str x, V.str c, V.int am]) hu
      have nu : u ≠ L := fun z => by rw [z, kx2] at hu; cases hu
      refine ⟨same_updN (sx.trans u1) fL, by rw [upd_same, List.map_append]; rfl, fun y hy => ?_, upd_oth (u1 _ _ kx) nDL, by unfold vD; rw [List.map_append]; rfl⟩
      rcases List.mem_append.mp hy with hy | hy
      · have h1 := hx y hy
        refine upd_oth (u1 _ _ h1) fun z => ?_
        rw [z, kx2] at h1
        cases h1
      · rw [List.mem_singleton.mp hy]
        exact upd_oth upd_same nu
    refine ⟨fun σ' H2 => ∃ rs2 : List TD, Same H H2 ∧ H2 D = some (.frz ob (.dK (dJ T))) ∧ H2 L = some (.lst (rs2.map rd)) ∧ Tds H2 rs2 ∧ ((0 < y.2 ∧ vD rs2 = vD rs ++ [(nmA nm a, nmA nm b', y.2)] ∧ rs2.length ≤ i + 1) ∨ (¬ 0 < y.2 ∧ rs2 = rs)) ∧ σ' = [some (.ref d), some (.ref b), some (.ref D), v3, v4, v5, v6, v7, v8, some (.ref L), some (.int y.1)], ?_, ?_⟩
    · refine ⟨_, rfl, _, rfl, D, _, rfl, .inl ⟨_, Sum.inl y.1, .inr ⟨ob, kF⟩, rfl, dv.symm⟩, _, _, rfl, rfl, _, rfl, ite2 (fun c => ?_) (fun c => ?_)⟩
      · have c' : 0 < y.2 := of_decide_eq_true c
        refine ⟨_, rfl, .inl ⟨rfl, _, .inl (.inl kL)⟩, _, rfl, _, rfl, _, _, rfl, rfl, ⟨by decide, by decide⟩, b, _, _, _, rfl, rfl, .inl (.inl hb5), ka, _, rfl, _, rfl, _, _, rfl, rfl, (by walk_at "side"), b, _, _, _, rfl, rfl, .inl (.inl hb5), kb, _, rfl, _, rfl, D, _, rfl, .inl ⟨_, Sum.inl y.1, .inr ⟨ob, kF⟩, rfl, dv.symm⟩, by walk_at "sz", fun u hu => ?_⟩
        obtain ⟨g1, g2, g3, g4, g5⟩ := app (x := nmA nm a) (c := nmA nm b') (am := y.2) s5 kF kL hT hu
        refine ⟨L, _, _, rfl, rfl, same_upd hu _ _ kL, by rw [List.length_map]; exact szLt (by omega), ?_⟩
        exact ⟨_, g1, g4, g2, g3, .inl ⟨c', g5, by rw [List.length_append]; show _ + 1 ≤ _; omega⟩, rfl⟩
      · have c' : ¬ 0 < y.2 := fun z => c (decide_eq_true z)
        exact ⟨rs, s5, kF, kL, hT, .inr ⟨c', rfl⟩, rfl⟩
    rintro _ H2 ⟨rs2, s6, kF2, kL2, hT2, w, rfl⟩
    have hb6 := s6 _ _ hb
    refine ⟨_, rfl, _, rfl, D, _, rfl, .inl ⟨_, Sum.inl y.1, .inr ⟨ob, kF2⟩, rfl, dv.symm⟩, _, _, rfl, rfl, _, rfl, ite2 (fun c => ?_) (fun c => ?_)⟩
    · have c' : y.2 < 0 := of_decide_eq_true c
      rcases w with ⟨w, _⟩ | ⟨_, rfl⟩
      · omega
      refine ⟨_, rfl, .inl ⟨rfl, _, .inl (.inl kL2)⟩, _, rfl, _, rfl, _, _, rfl, rfl, (by walk_at "side"), b, _, _, _, rfl, rfl, .inl (.inl hb6), kb, _, rfl, _, rfl, _, _, rfl, rfl, ⟨by decide, by decide⟩, b, _, _, _, rfl, rfl, .inl (.inl hb6), ka, _, rfl, _, rfl, D, _, rfl, .inl ⟨_, Sum.inl y.1, .inr ⟨ob, kF2⟩, rfl, dv.symm⟩, _, rfl, by walk_at "sz", fun u hu => ?_⟩
      obtain ⟨g1, g2, g3, g4, g5⟩ := app (x := nmA nm b') (c := nmA nm a) (am := -y.2) s6 kF2 kL2 hT2 hu
      refine ⟨L, _, _, rfl, rfl, same_upd hu _ _ kL2, by rw [List.length_map]; exact szLt (by omega), ?_⟩
      refine ⟨_, _, g1, g4, g2, g3, ?_, by rw [List.length_append]; show _ + 1 ≤ _; omega, rfl⟩
      rw [tk, g5]
      unfold rw1
      rw [e1, e2, if_neg (show ¬ 0 < y.2 by omega), if_pos c']
    · have c' : ¬ y.2 < 0 := fun z => c (decide_eq_true z)
      rcases w with ⟨w, g5, g6⟩ | ⟨w, rfl⟩
      · refine ⟨rs2, _, s6, kF2, kL2, hT2, ?_, g6, rfl⟩
        rw [tk, g5]
        unfold rw1
        rw [e1, e2, if_pos w]
      · refine ⟨rs2, _, s6, kF2, kL2, hT2, ?_, by omega, rfl⟩
        rw [tk]
        unfold rw1
        rw [if_neg w, if_neg c', List.append_nil]
  obtain ⟨rs, v10, s5, kF, kL, hT, hv, lr, rfl⟩ := z
  rw [dJ_len] at hv lr
  rw [List.take_length] at hv
  have ndr : (rs.map fun q : TD => (q.2.1, q.2.2.1)).Nodup := by
    have := rw_nd nd l8 ok
    rw [← hv] at this
    unfold vD at this
    rw [List.map_map] at this
    exact this
  refine ⟨_, rfl, L, rs, rfl, .inl (.inl kL), hT, ndr, by omega, fun l qs hl pm pw => ?_⟩
  have sl := same_upd (u := .lst (qs.map rd)) hl
  refine q _ l qs (s5.trans sl) (s5.free hl) upd_same (fun p hp => sl _ _ (hT p (pm.mem_iff.mp hp))) (bok_of nd l8 ok hn ?_) (by rw [pm.length_eq]; omega)
  rw [← hv]
  exact pm.map _
theorem sc_law : FnScope ["script", "many", "names", "deeds", "book", "sums", "debtor", "creditor", "amount", "known", "due", "handed", "k", "rows", "found"] ["script"] (defScope (top 12)) := ⟨rfl, rfl, rfl, by decide +kernel, rfl, by decide +kernel, by decide +kernel⟩
def sp_law (K : PySem.W.Frag) : Sp := fun vs H Q _ => ∃ (a : Addr) (ns : List Int), vs = [.ref a] ∧ SqL K H a (ns.map V.int) ∧ ns.length ≤ 63 ∧ (∀ n ∈ ns, Bts n) ∧ ∀ H', Q (.bl true) H'
theorem ok_law (d_law : Dv K mg "law" (top 12) ["script"]) (B : Bl mg) (C : Co mg) (R : Er K mg) (d__law_cell_at : Dv K mg "_law_cell_at" (top 4) ["script", "k"]) (G__law_cell_at : FnOk P w K mg base CX0 1 d__law_cell_at.f d__law_cell_at.fd ["script", "k"] (sp__law_cell_at K)) (d__law_name : Dv K mg "_law_name" (top 5) ["k", "cell"]) (G__law_name : FnOk P w K mg base CX0 1 d__law_name.f d__law_name.fd ["k", "cell"] (sp__law_name K)) (d__law_deeds : Dv K mg "_law_deeds" (top 6) ["script", "many"]) (G__law_deeds : FnOk P w K mg base CX0 2 d__law_deeds.f d__law_deeds.fd ["script", "many"] (sp__law_deeds K)) (d__law_book : Dv K mg "_law_book" (top 7) ["deeds", "names"]) (G__law_book : FnOk P w K mg base CX0 1 d__law_book.f d__law_book.fd ["deeds", "names"] (sp__law_book K)) (d__law_plain : Dv K mg "_law_plain" (top 8) ["found", "due"]) (G__law_plain : FnOk P w K mg base CX0 1 d__law_plain.f d__law_plain.fd ["found", "due"] (sp__law_plain K)) (d_net_of : Dv K mg "net_of" (top 1) ["book", "who"]) (G_net_of : FnOk P w K mg base CX0 1 d_net_of.f d_net_of.fd ["book", "who"] (sp_net_of K)) (d_nets : Dv K mg "nets" (top 2) ["book"]) (G_nets : FnOk P w K mg base CX0 1 d_nets.f d_nets.fd ["book"] (sp_nets K)) (d__law_rows : Dv K mg "_law_rows" (top 10) ["found", "due"]) (G__law_rows : FnOk P w K mg base CX0 3 d__law_rows.f d__law_rows.fd ["found", "due"] (sp__law_rows K)) (d__law_part_right : Dv K mg "_law_part_right" (top 11) ["book"]) (G__law_part_right : FnOk P w K mg base CX0 4 d__law_part_right.f d__law_part_right.fd ["book"] (sp__law_part_right K)) : FnOk P w K mg base CX0 5 d_law.f d_law.fd ["script"] (sp_law K) := by
  refine d_law.F.ok sc_law (fun vs H Q E h => ?_) (fun cdv A outer s H vs Q E hr h => ?_)
  · obtain ⟨_, _, rfl, _⟩ := h; rfl
  obtain ⟨a, ns, rfl, hS, h63, hB, q⟩ := h
  refine ⟨_, (pss_cons (ps_set (i := 1) sc_law.nd rfl (Or.inl rfl) (pe_op op_add pe_int (pe_op op_mod (pe_call G__law_cell_at (hr.mono (by decide)) rfl d__law_cell_at.m d__law_cell_at.F.kp d__law_cell_at.b .nil pass0 (pa_cons (pv 0) (pa_cons pe_int pa_nil))) pe_int))) (pss_cons (ps_set (i := 2) sc_law.nd rfl (Or.inr rfl) (pe_lcT (N := ["script", "many", "names", "deeds", "book", "sums", "debtor", "creditor", "amount", "known", "due", "handed", "k", "rows", "found"]) (M := ["script", "many", "names", "deeds", "book", "sums", "debtor", "creditor", "amount", "known", "due", "handed", "-k", "rows", "found"]) (sc := defScope (top 12)) (ts := ["k"]) ⟨by decide +kernel, rfl, by decide +kernel, by decide +kernel, by decide +kernel, rfl, by decide +kernel⟩ rfl rfl rfl (pi_range1 rfl B.b_range (pa_cons (pv 1) pa_nil)) (fun L_ _ _ _ _ _ => L_.nm rfl 0 rfl rfl _ _ _ _ _) (fun _ _ _ _ _ => pif_nil) (fun _ _ _ _ _ => (pe_call G__law_name (hr.mono (by decide)) rfl d__law_name.m d__law_name.F.kp d__law_name.b .nil pass0 (pa_cons (pv 0) (pa_cons (pe_op op_fdiv (pe_call G__law_cell_at (hr.mono (by decide)) rfl d__law_cell_at.m d__law_cell_at.F.kp d__law_cell_at.b .nil pass0 (pa_cons (pv 1) (pa_cons pe_int pa_nil))) pe_int) pa_nil)))))) (pss_cons (ps_set (i := 3) sc_law.nd rfl (Or.inl rfl) (pe_call G__law_deeds (hr.mono (by decide)) rfl d__law_deeds.m d__law_deeds.F.kp d__law_deeds.b .nil pass0 (pa_cons (pv 0) (pa_cons (pv 1) pa_nil)))) (pss_cons (ps_set (i := 4) sc_law.nd rfl (Or.inl rfl) (pe_call G__law_book (hr.mono (by decide)) rfl d__law_book.m d__law_book.F.kp d__law_book.b .nil pass0 (pa_cons (pv 3) (pa_cons (pv 2) pa_nil)))) (pss_cons (ps_set (i := 5) sc_law.nd rfl (Or.inr rfl) (pe_lc (N := ["script", "many", "names", "deeds", "book", "sums", "debtor", "creditor", "amount", "known", "due", "handed", "k", "rows", "found"]) (sc := defScope (top 12)) ⟨by decide +kernel, rfl, rfl, by decide +kernel, by decide +kernel, by decide +kernel, by decide +kernel⟩ rfl rfl rfl (pi_list (pv 2)) (fun _ _ _ _ _ => pif_nil) (fun _ _ _ _ _ => pe_int))) (pss_cons (ps_for PassesOwn.never rfl (pi_list (pv 3)) (pg_tup rfl (pgs_cons (pg_name (i := 6) sc_law.nd rfl (Or.inl rfl)) (pgs_cons (pg_name (i := 7) sc_law.nd rfl (Or.inl rfl)) (pgs_cons (pg_name (i := 8) sc_law.nd rfl (Or.inl rfl)) pgs_nil)))) (pss_cons (ps_asg (pe_op op_sub (pe_ix ix_list (pv 5) (pv 6) (fun _ _ => rfl)) (pv 8)) (pg_sub (pv 5) (pv 6) set_list)) (pss_one (ps_asg (pe_op op_add (pe_ix ix_list (pv 5) (pv 7) (fun _ _ => rfl)) (pv 8)) (pg_sub (pv 5) (pv 7) set_list))))) (pss_cons (ps_set (i := 9) sc_law.nd rfl (Or.inr rfl) pe_dnewK) (pss_cons (ps_for PassesOwn.never rfl (pi_list (pv 4)) (pg_name (i := 10) sc_law.nd rfl (Or.inl rfl)) (pss_cons (ps_dput (hu1 hr.units) (pv 9) (pe_ix ix_tup (pv 10) pe_int (fun _ _ => rfl)) pe_bl rfl) (pss_one (ps_dput (hu1 hr.units) (pv 9) (pe_ix ix_tup (pv 10) pe_int (fun _ _ => rfl)) pe_bl rfl)))) (pss_cons (ps_set (i := 11) sc_law.nd rfl (Or.inl rfl) (pe_callTy call_list_of rfl B.b_list PyProof.Rows.boot_list (pa_cons (pv 4) pa_nil))) (pss_cons (ps_for PassesOwn.never rfl (pi_range1 rfl B.b_range (pa_cons (pv 1) pa_nil)) (pg_name (i := 12) sc_law.nd rfl (Or.inl rfl)) (pss_one (ps_if (pt_not (pt_val (pe_call G__law_plain (hr.mono (by decide)) rfl d__law_plain.m d__law_plain.F.kp d__law_plain.b .nil pass0 (pa_cons (pe_call G_net_of (hr.mono (by decide)) rfl d_net_of.m d_net_of.F.kp d_net_of.b .nil pass0 (pa_cons (pv 11) (pa_cons (pe_ix ix_list (pv 2) (pv 12) (fun _ _ => rfl)) pa_nil))) (pa_cons (pe_ix ix_list (pv 5) (pv 12) (fun _ _ => rfl)) pa_nil))) (fun _ => rfl))) (pss_one (ps_ret pe_bl)) pss_nil))) (pss_cons (ps_if (pt_not (pt_val (pe_call G__law_plain (hr.mono (by decide)) rfl d__law_plain.m d__law_plain.F.kp d__law_plain.b .nil pass0 (pa_cons (pe_call G_net_of (hr.mono (by decide)) rfl d_net_of.m d_net_of.F.kp d_net_of.b .nil pass0 (pa_cons (pv 11) (pa_cons (pe_call G__law_name (hr.mono (by decide)) rfl d__law_name.m d__law_name.F.kp d__law_name.b .nil pass0 (pa_cons pe_int (pa_cons (pe_op op_fdiv (pe_call G__law_cell_at (hr.mono (by decide)) rfl d__law_cell_at.m d__law_cell_at.F.kp d__law_cell_at.b .nil pass0 (pa_cons (pv 0) (pa_cons pe_int pa_nil))) pe_int) pa_nil))) pa_nil))) (pa_cons pe_int pa_nil))) (fun _ => rfl))) (pss_one (ps_ret pe_bl)) pss_nil) (pss_cons (ps_set (i := 13) sc_law.nd rfl (Or.inl rfl) (pe_callB call_sortedP rfl B.b_sorted PyProof.Rows.boot_sorted (pa_cons (pe_lcT (N := ["script", "many", "names", "deeds", "book", "sums", "debtor", "creditor", "amount", "known", "due", "handed", "k", "rows", "found"]) (M := ["script", "many", "names", "deeds", "book", "sums", "debtor", "creditor", "amount", "known", "due", "handed", "-k", "rows", "found"]) (sc := defScope (top 12)) (ts := ["k"]) ⟨by decide +kernel, rfl, by decide +kernel, by decide +kernel, by decide +kernel, rfl, by decide +kernel⟩ rfl rfl rfl (pi_range1 rfl B.b_range (pa_cons (pv 1) pa_nil)) (fun L_ _ _ _ _ _ => L_.nm rfl 0 rfl rfl _ _ _ _ _) (fun _ _ _ _ _ => (pif_one (pt_cmp (pc_din (hu1 hr.units) (pe_ix (ix_listK (K := K) rfl) (pv 3) (pv 0) (fun _ _ => rfl)) (pv 10))))) (fun _ _ _ _ _ => (pe_tup (pa_cons (pe_ix (ix_listK (K := K) rfl) (pv 3) (pv 0) (fun _ _ => rfl)) (pa_cons (pe_ix (ix_listK (K := K) rfl) (pv 6) (pv 0) (fun _ _ => rfl)) pa_nil))))) pa_nil))) (pss_cons (ps_set (i := 14) sc_law.nd rfl (Or.inl rfl) (pe_call G_nets (hr.mono (by decide)) rfl d_nets.m d_nets.F.kp d_nets.b .nil pass0 (pa_cons (pv 11) pa_nil))) (pss_cons (ps_if (PW.pt (pw_or (pt_not (pt_val (pe_call G__law_rows (hr.mono (by decide)) rfl d__law_rows.m d__law_rows.F.kp d__law_rows.b .nil pass0 (pa_cons (pv 14) (pa_cons (pv 13) pa_nil))) (fun _ => rfl))) (pw_or (pt_cmpR op_ne (pe_callB (call_sum rfl) rfl B.b_sum PyProof.Rows.boot_sum (pa_cons (pe_lc (N := ["script", "many", "names", "deeds", "book", "sums", "debtor", "creditor", "amount", "known", "due", "handed", "k", "rows", "found"]) (sc := defScope (top 12)) ⟨by decide +kernel, rfl, rfl, by decide +kernel, by decide +kernel, by decide +kernel, by decide +kernel⟩ rfl rfl rfl (pi_list (pv 14)) (fun _ _ _ _ _ => pif_nil) (fun _ _ _ _ _ => (pe_ix (ix_tupK (K := K) rfl) (pv 0) pe_int (fun _ _ => rfl)))) pa_nil)) pe_int (nomark _)) (pw_or1 (pt_not (pt_val (pe_call G__law_rows (hr.mono (by decide)) rfl d__law_rows.m d__law_rows.F.kp d__law_rows.b .nil pass0 (pa_cons (pv 11) (pa_cons (pv 4) pa_nil))) (fun _ => rfl))))))) (pss_one (ps_ret pe_bl)) pss_nil) (pss_cons (ps_expr (pe_bm PySem.F.plainAttrs_list PySem.F.slot_list_append PySem.F.type_list_append mt_append (pv 14) (pa_cons pe_int pa_nil))) (pss_one (ps_ret (pe_and (pe_call G__law_part_right (hr.mono (by decide)) rfl d__law_part_right.m d__law_part_right.F.kp d__law_part_right.b .nil pass0 (pa_cons (pe_slice sl_list (pv 4) (po_some pe_int) po_none) pa_nil)) (pe_and (pe_call G__law_part_right (hr.mono (by decide)) rfl d__law_part_right.m d__law_part_right.F.kp d__law_part_right.b .nil pass0 (pa_cons (pe_lst pa_nil) pa_nil)) (pe_one (pe_call G__law_part_right (hr.mono (by decide)) rfl d__law_part_right.m d__law_part_right.F.kp d__law_part_right.b .nil pass0 (pa_cons (pv 4) pa_nil)))))))))))))))))))))), ?_⟩
  refine ⟨_, rfl, a, ns, 0, rfl, hS, by decide, _, _, rfl, rfl, (by walk_at "side"), _, _, rfl, rfl, ?_⟩
  obtain ⟨m, em, m3, m8⟩ : ∃ m : Nat, 3 + cell ns 0 % 6 = (m : Int) ∧ 3 ≤ m ∧ m ≤ 8 := ⟨(3 + cell ns 0 % 6).toNat, by omega, by omega, by omega⟩
  dsimp only
  rw [em]
  refine ⟨_, rfl, _, rfl, by omega, by omega, ?_⟩
  refine comp_valJ (val := fun j : Nat => .int (0 + (j : Int))) (fun i ys H' => ∃ zs : List Str, ys = zs.map V.str ∧ Same H H' ∧ zs.length = i ∧ ∀ j z, zs[j]? = some z → Tell (cell ns 0 / 6) z j) ⟨[], rfl, Same.refl _, rfl, (fun _ _ z => by cases z)⟩ (fun i ys H' z => ?_) (szOk (by omega)) (fun i ys H' hi z => ?_) (fun ys H1 z => ?_)
  · obtain ⟨zs, rfl, _, hn, _⟩ := z
    rw [List.length_map]; exact Nat.le_of_eq hn
  · obtain ⟨zs, rfl, s1, hn, ht⟩ := z
    have hi' : i < 8 := by omega
    refine ⟨rfl, ?_⟩
    refine ⟨_, rfl, _, rfl, a, ns, 0, rfl, s1.seq hS, by decide, _, _, rfl, rfl, ⟨by decide, by decide⟩, _, _, rfl, by omega, by omega, fun z H2 s2 zl tl => ?_⟩
    refine ⟨zs ++ [z], by rw [List.map_append]; rfl, s1.trans s2, by rw [List.length_append, hn]; rfl, fun j y hy => ?_⟩
    rcases Nat.lt_or_ge j zs.length with l | l
    · rw [List.getElem?_append_left l] at hy
      exact ht j y hy
    · rw [List.getElem?_append_right l] at hy
      have e0 : j - zs.length = 0 := by
        have := (List.getElem?_eq_some_iff.mp hy).1
        have : j - zs.length < 1 := this
        omega
      rw [e0] at hy
      cases hy
      have ej : ((0 + (i : Int)) % 26).toNat = j := by omega
      rw [← ej]
      exact tl
  obtain ⟨nm, rfl, s1, hn, ht⟩ := z
  rw [Int.toNat_natCast] at hn
  subst hn
  have nd : nm.Nodup := by
    refine List.pairwise_iff_getElem.mpr fun i j hi hj hij => ?_
    exact tell_ne (ht i _ (List.getElem?_eq_getElem hi)) (ht j _ (List.getElem?_eq_getElem hj)) (by omega) (by omega) (by omega)
  intro b hb
  have s2 := same_upd' (u := .lst (nm.map V.str)) s1 hb
  have kb := upd_same (H := H1) (a := b) (o := .lst (nm.map V.str))
  generalize upd H1 b (.lst (nm.map V.str)) = H2 at s2 kb
  refine ⟨_, rfl, _, rfl, a, ns, nm.length, rfl, s2.seq hS, h63, hB, m3, m8, fun H3 D ds s3 fD kD hDe ld => ?_⟩
  have kb := s3 _ _ kb
  have s3 := s2.trans s3
  refine ⟨_, rfl, _, rfl, D, b, ds, nm, rfl, kD, hDe, kb, nd, m8, ld, fun H4 bk ps s4 fbk kbk hP bok lp => ?_⟩
  have kb := s4 _ _ kb
  have kD := s4 _ _ kD
  have hDe : Des nm.length H4 ds := fun p hp => ⟨s4 _ _ (hDe p hp).1, (hDe p hp).2⟩
  have s4 := s3.trans s4
  refine ⟨_, rfl, b, rfl, ⟨_, .inl (.inl kb)⟩, ?_⟩
  refine comp_list (K := K) (fun _ => .int 0) (.inl (.inl kb)) (by rw [List.length_map]; exact szOk (by omega)) (fun y H' hy sm R hR => ⟨rfl, hR _ (Same.refl _)⟩) (fun H5 s5 sm hsm => ?_)
  have ez : (nm.map V.str).map (fun _ => V.int 0) = (nm.map fun _ => (0 : Int)).map V.int := by rw [List.map_map, List.map_map]; rfl
  rw [ez]
  have s6 := same_upd' (u := .lst ((nm.map fun _ => (0 : Int)).map V.int)) s5 hsm
  have ksm := upd_same (H := H5) (a := sm) (o := .lst ((nm.map fun _ => (0 : Int)).map V.int))
  have fsm : H4 sm = none := s5.free hsm
  generalize upd H5 sm (.lst ((nm.map fun _ => (0 : Int)).map V.int)) = H6 at s6 ksm
  have out : ∀ {p : Addr} {o : HO}, H4 p = some o → p ≠ sm := fun e => ne_of_none e fsm
  refine ⟨_, rfl, D, rfl, ⟨_, .inl (.inl (s6 _ _ kD))⟩, ?_⟩
  refine for_list (K := K) (a := D) (xs := ds.map re) (fun i σ H' => ∃ (ms : List Int) (v6 v7 v8 : Option V), Same H4 H' ∧ H' sm = some (.lst (ms.map V.int)) ∧ ms.length = nm.length ∧ (∀ k, k < nm.length → ms.getD k 0 = sd k (ds.take i)) ∧ σ = [some (.ref a), some (.int (nm.length : Int)), some (.ref b), some (.ref D), some (.ref bk), some (.ref sm), v6, v7, v8, none, none, none, none, none, none]) ⟨_, none, none, none, s6, ksm, List.length_map _, (fun k hk => ?_), rfl⟩ (fun i σ H' _ z => ?_) (fun i x σ H' hx z => ?_) (fun σ H' z => ?_)
  · rw [List.getD_eq_getElem?_getD, List.getElem?_map]
    cases nm[k]? <;> rfl
  · obtain ⟨_, _, _, _, s, _⟩ := z
    exact .inl (.inl (s _ _ kD))
  · obtain ⟨ms, v6, v7, v8, s7, ksm, lm, hm, rfl⟩ := z
    rw [List.getElem?_map] at hx
    obtain ⟨y, hy, rfl⟩ := Option.map_eq_some_iff.mp hx
    obtain ⟨ky, y1, y2, y3, y4⟩ := hDe y (List.mem_of_getElem? hy)
    have ky := s7 _ _ ky
    have st := fun k => sd_take k ds i hy
    obtain ⟨t, dn, cn, am⟩ := y
    dsimp only at ky y1 y2 y3 y4
    refine ⟨t, _, rfl, .inl (.inl ky), rfl, _, _, rfl, _, _, rfl, _, _, rfl, rfl, ?_⟩
    have a1 : atI (ms.map V.int) (dn : Int) = some (V.int (ms.getD dn 0)) := by
      refine atI_nat ?_
      rw [List.getElem?_map, List.getD_eq_getElem?_getD, List.getElem?_eq_getElem (show dn < ms.length by omega)]
      rfl
    refine ⟨_, rfl, _, rfl, sm, _, _, _, rfl, rfl, .inl (.inl ksm), a1, _, rfl, _, _, rfl, rfl, _, rfl, _, rfl, sm, _, _, dn, rfl, rfl, ksm, ixN_nat (by rw [List.length_map]; omega), ?_⟩
    have e1 : (ms.map V.int).set dn (V.int (ms.getD dn 0 - am)) = (ms.set dn (ms.getD dn 0 - am)).map V.int := by rw [List.map_set]
    dsimp only
    rw [e1]
    have k2 := upd_same (H := H') (a := sm) (o := .lst ((ms.set dn (ms.getD dn 0 - am)).map V.int))
    have s8 := same_updN (u := .lst ((ms.set dn (ms.getD dn 0 - am)).map V.int)) s7 fsm
    have l2 : (ms.set dn (ms.getD dn 0 - am)).length = nm.length := by rw [List.length_set, lm]
    have g2 : ∀ k, (ms.set dn (ms.getD dn 0 - am)).getD k 0 = if k = dn then ms.getD dn 0 - am else ms.getD k 0 := fun k => getD_set2 ms dn k _ (by omega)
    generalize ms.set dn (ms.getD dn 0 - am) = ms2 at k2 s8 l2 g2
    generalize upd H' sm (.lst (ms2.map V.int)) = H8 at k2 s8
    have a2 : atI (ms2.map V.int) (cn : Int) = some (V.int (ms2.getD cn 0)) := by
      refine atI_nat ?_
      rw [List.getElem?_map, List.getD_eq_getElem?_getD, List.getElem?_eq_getElem (show cn < ms2.length by omega)]
      rfl
    refine ⟨_, rfl, _, rfl, sm, _, _, _, rfl, rfl, .inl (.inl k2), a2, _, rfl, _, _, rfl, rfl, _, rfl, _, rfl, sm, _, _, cn, rfl, rfl, k2, ixN_nat (by rw [List.length_map]; omega), ?_⟩
    have e2 : (ms2.map V.int).set cn (V.int (ms2.getD cn 0 + am)) = (ms2.set cn (ms2.getD cn 0 + am)).map V.int := by rw [List.map_set]
    dsimp only
    rw [e2]
    refine ⟨_, _, _, _, same_updN s8 fsm, upd_same, by rw [List.length_set, l2], fun k hk => ?_, rfl⟩
    rw [getD_set2 ms2 cn k _ (by omega), g2, g2, st k]
    have hk1 := hm k hk
    have hk2 := hm cn y2
    unfold sdF
    dsimp only
    by_cases x : k = cn
    · subst x
      rw [if_pos rfl, if_pos rfl, if_neg (fun z => y3 z.symm), if_neg y3]
      omega
    · rw [if_neg x, if_neg (show ¬ cn = k from fun z => x z.symm)]
      by_cases w : k = dn
      · subst w
        rw [if_pos rfl, if_pos rfl]
        omega
      · rw [if_neg w, if_neg (show ¬ dn = k from fun z => w z.symm)]
        omega
  obtain ⟨ms, v6, v7, v8, s7, ksm, lm, hm, rfl⟩ := z
  rw [List.length_map, List.take_length] at hm
  refine fun Kd hKd => ?_
  have fK : H' Kd = none := hKd
  have s8 := same_upd (u := .dK []) hKd
  have kK : upd H' Kd (.dK []) Kd = some (.dK (dS [])) := upd_same
  generalize upd H' Kd (.dK []) = H8 at s8 kK
  have kbk7 := s7 _ _ kbk
  refine ⟨_, rfl, bk, rfl, ⟨_, .inl (.inl (s8 _ _ kbk7))⟩, ?_⟩
  refine for_list (K := K) (a := bk) (xs := ps.map rd) (fun i σ H'' => ∃ (ks : List Str) (v10 : Option V), Same H' H'' ∧ H'' Kd = some (.dK (dS ks)) ∧ ks.length ≤ 2 * i ∧ (∀ z, z ∈ ks ↔ ∃ p ∈ (vD ps).take i, p.1 = z ∨ p.2.1 = z) ∧ σ = [some (.ref a), some (.int (nm.length : Int)), some (.ref b), some (.ref D), some (.ref bk), some (.ref sm), v6, v7, v8, some (.ref Kd), v10, none, none, none, none]) ⟨[], none, s8, kK, Nat.le_refl _, (fun z => ⟨fun h => (by cases h), fun ⟨p, h, _⟩ => (by cases h)⟩), rfl⟩ (fun i σ H'' _ z => ?_) (fun i x σ H'' hx z => ?_) (fun σ H'' z => ?_)
  · obtain ⟨_, _, s, _⟩ := z
    exact .inl (.inl (s _ _ kbk7))
  · obtain ⟨ks, v10, s9, kK, lk, hk, rfl⟩ := z
    rw [List.getElem?_map] at hx
    obtain ⟨y, hy, rfl⟩ := Option.map_eq_some_iff.mp hx
    have il : i < ps.length := (List.getElem?_eq_some_iff.mp hy).1
    have ky := s9 _ _ (s7 _ _ (hP y (List.mem_of_getElem? hy)))
    have tk := vD_take ps i hy
    have nKy : y.1 ≠ Kd := ne_of_none (s7 _ _ (hP y (List.mem_of_getElem? hy))) fK
    refine ⟨_, rfl, _, rfl, y.1, _, _, _, rfl, rfl, .inl (.inl ky), rfl, Kd, _, rfl, .inl ⟨_, Sum.inr y.2.1, kK, rfl, szLt (by rw [dS_len]; omega), rfl⟩, ?_⟩
    rw [dS_put]
    have l1 := addS_len ks y.2.1
    have m1 : ∀ z, z ∈ addS ks y.2.1 ↔ z ∈ ks ∨ z = y.2.1 := fun z => addS_mem
    have sA := same_updN (u := .dK (dS (addS ks y.2.1))) s9 fK
    have kA := upd_same (H := H'') (a := Kd) (o := .dK (dS (addS ks y.2.1)))
    have kyA := upd_oth (u := .dK (dS (addS ks y.2.1))) ky nKy
    generalize addS ks y.2.1 = ks1 at l1 m1 sA kA kyA
    generalize upd H'' Kd (.dK (dS ks1)) = HA at sA kA kyA
    refine ⟨_, rfl, _, rfl, y.1, _, _, _, rfl, rfl, .inl (.inl kyA), rfl, Kd, _, rfl, .inl ⟨_, Sum.inr y.2.2.1, kA, rfl, szLt (by rw [dS_len]; omega), rfl⟩, ?_⟩
    rw [dS_put]
    have l2 := addS_len ks1 y.2.2.1
    refine ⟨addS ks1 y.2.2.1, _, same_updN sA fK, upd_same, by omega, fun z => ?_, rfl⟩
    rw [addS_mem, m1, hk, tk]
    constructor
    · rintro ((⟨p, hp, c⟩ | rfl) | rfl)
      · exact ⟨p, List.mem_append_left _ hp, c⟩
      · exact ⟨y.2, List.mem_append_right _ List.mem_cons_self, .inl rfl⟩
      · exact ⟨y.2, List.mem_append_right _ List.mem_cons_self, .inr rfl⟩
    · rintro ⟨p, hp, c⟩
      rcases List.mem_append.mp hp with hp | hp
      · exact .inl (.inl ⟨p, hp, c⟩)
      · rw [List.mem_singleton.mp hp] at c
        rcases c with c | c
        · exact .inl (.inr c.symm)
        · exact .inr c.symm
  obtain ⟨ks, v10, s9, kK, lk, hk, rfl⟩ := z
  rw [List.length_map] at lk
  rw [List.length_map, ← vD_len, List.take_length] at hk
  have kb := s9 _ _ (s7 _ _ kb)
  have kbk := s9 _ _ kbk7
  have hP := (hP.same s7).same s9
  have ksm := s9 _ _ ksm
  have sH := (s4.trans s7).trans s9
  clear s8
  refine ⟨_, rfl, bk, _, rfl, .inl (.inl (.inl kbk)), fun hd hhd => ?_⟩
  have sB := same_upd (u := .lst (ps.map rd)) hhd
  have khd := upd_same (H := H'') (a := hd) (o := .lst (ps.map rd))
  have kb := sB _ _ kb
  have kbk := sB _ _ kbk
  have hP := hP.same sB
  have ksm := sB _ _ ksm
  have kK := sB _ _ kK
  have sH := sH.trans sB
  generalize upd H'' hd (.lst (ps.map rd)) = HG1 at khd kb kbk hP ksm kK sH
  have lps : ps.length ≤ 900 := by omega
  have l64 : (kn (vD ps)).length < 64 := by have := kn_len (nm := nm) bok.mem; omega
  refine ⟨_, rfl, _, rfl, by omega, by omega, ?_⟩
  refine for_range (lo := 0) (fun i σ H' => Same HG1 H' ∧ ∃ v12, σ = [some (.ref a), some (.int (nm.length : Int)), some (.ref b), some (.ref D), some (.ref bk), some (.ref sm), v6, v7, v8, some (.ref Kd), v10, some (.ref hd), v12, none, none]) ⟨Same.refl _, none, rfl⟩ (fun i σ H' hi z => ?_) (fun σ H' z => ?_)
  · obtain ⟨sC, v12, rfl⟩ := z
    have hi' : i < nm.length := by omega
    have b1 : atI (nm.map V.str) (0 + (i : Int)) = some (V.str (nmA nm i)) := by rw [Int.zero_add]; exact atI_nat (by rw [List.getElem?_map, nmA_get hi']; rfl)
    have b2 : atI (ms.map V.int) (0 + (i : Int)) = some (V.int (ms.getD i 0)) := by
      rw [Int.zero_add]
      refine atI_nat ?_
      rw [List.getElem?_map, List.getD_eq_getElem?_getD, List.getElem?_eq_getElem (show i < ms.length by omega)]
      rfl
    refine ⟨_, rfl, _, rfl, _, rfl, b, _, _, _, rfl, rfl, .inl (.inl (sC _ _ kb)), b1, hd, ps, nmA nm i, rfl, sC _ _ khd, hP.same sC, lps, fun H2' sD => ?_⟩
    rw [bok.net i hi', ← hm i hi']
    exact ⟨_, rfl, _, rfl, sm, _, _, _, rfl, rfl, .inl (.inl (sD _ _ (sC _ _ ksm))), b2, _, rfl, rfl, _, rfl, iteF ⟨sC.trans sD, _, rfl⟩⟩
  obtain ⟨sC, v12, rfl⟩ := z
  have kb := sC _ _ kb
  have kbk := sC _ _ kbk
  have khd := sC _ _ khd
  have hP := hP.same sC
  have ksm := sC _ _ ksm
  have kK := sC _ _ kK
  have sH := sH.trans sC
  refine ⟨_, rfl, _, rfl, a, ns, 0, rfl, sH.seq hS, by decide, _, _, rfl, rfl, ⟨by decide, by decide⟩, _, _, rfl, by decide, by decide, fun z H2' sD zl tl => ?_⟩
  have tl : Tell (cell ns 0 / 6) z 25 := tl
  have zn : z ∉ nm := fun hz => by
    obtain ⟨j, hj⟩ := List.getElem?_of_mem hz
    have := (List.getElem?_eq_some_iff.mp hj).1
    exact tell_ne (ht j z hj) tl (by omega) (by decide) (by omega) rfl
  have z0 : net z (vD ps) = 0 := net_none fun p hp => ⟨fun e => zn (by rw [← e]; exact (bok.mem p hp).1), fun e => zn (by rw [← e]; exact (bok.mem p hp).2)⟩
  refine ⟨hd, ps, z, rfl, sD _ _ khd, hP.same sD, lps, fun H3' sE => ?_⟩
  rw [z0]
  refine ⟨_, rfl, rfl, _, rfl, iteF ?_⟩
  have sDE := sD.trans sE
  have kb := sDE _ _ kb
  have kbk := sDE _ _ kbk
  have khd := sDE _ _ khd
  have hP := hP.same sDE
  have ksm := sDE _ _ ksm
  have kK := sDE _ _ kK
  refine ⟨_, rfl, _, rfl, by omega, by omega, ?_⟩
  refine comp_valF3 (val := fun j : Nat => .int (0 + (j : Int))) (fun i ys H' => ∃ us : List T2, ys = us.map r2 ∧ Same H3' H' ∧ T2s H' us ∧ v2 us = rowV nm ms ks i ∧ us.length ≤ i) ⟨[], rfl, Same.refl _, (fun _ z => by cases z), rfl, Nat.le_refl _⟩ (fun i ys H' z => ?_) (szOk (by omega)) (fun i ys H' hi z => ?_) (fun ys H4' z => ?_)
  · obtain ⟨us, rfl, _, _, _, hn⟩ := z
    rw [List.length_map]; exact hn
  · obtain ⟨us, rfl, sF, hU, hv, hn⟩ := z
    have hi' : i < nm.length := by omega
    have b1 : atI (nm.map V.str) (0 + (i : Int)) = some (V.str (nmA nm i)) := by rw [Int.zero_add]; exact atI_nat (by rw [List.getElem?_map, nmA_get hi']; rfl)
    have b2 : atI (ms.map V.int) (0 + (i : Int)) = some (V.int (ms.getD i 0)) := by
      rw [Int.zero_add]
      refine atI_nat ?_
      rw [List.getElem?_map, List.getD_eq_getElem?_getD, List.getElem?_eq_getElem (show i < ms.length by omega)]
      rfl
    have kbF := sF _ _ kb
    have ksF := sF _ _ ksm
    refine ⟨rfl, _, rfl, _, rfl, b, _, _, _, rfl, rfl, .inl (.inl kbF), b1, _, rfl, Kd, _, rfl, .inl ⟨_, Sum.inr (nmA nm i), .inl (sF _ _ kK), rfl, rfl⟩, _, rfl, ite2 (fun c => ?_) (fun c => ?_)⟩
    · rw [dS_some] at c
      have c' : nmA nm i ∈ ks := of_decide_eq_true c
      refine ⟨_, rfl, _, rfl, b, _, _, _, rfl, rfl, .inl (.inl kbF), b1, _, rfl, _, rfl, sm, _, _, _, rfl, rfl, .inl (.inl ksF), b2, by walk_at "sz", fun t ht' => ?_⟩
      have st := same_upd (u := .tup [V.str (nmA nm i), V.int (ms.getD i 0)]) ht'
      refine ⟨us ++ [(t, nmA nm i, ms.getD i 0)], by rw [List.map_append]; rfl, sF.trans st, fun y hy => ?_, ?_, by rw [List.length_append]; show _ + 1 ≤ _; omega⟩
      · rcases List.mem_append.mp hy with hy | hy
        · exact st _ _ (hU y hy)
        · rw [List.mem_singleton.mp hy]; exact upd_same
      · rw [rowV_succ, if_pos c', ← hv]
        unfold v2
        rw [List.map_append]
        rfl
    · rw [dS_some] at c
      have c' : ¬ nmA nm i ∈ ks := fun z => c (decide_eq_true z)
      refine ⟨us, rfl, sF, hU, ?_, by omega⟩
      rw [rowV_succ, if_neg c', List.append_nil, hv]
  obtain ⟨us, rfl, sF, hU, hv, hn⟩ := z
  rw [Int.toNat_natCast] at hv hn
  intro rl hrl
  have sG := same_upd' (u := .lst (us.map r2)) sF hrl
  have krl := upd_same (H := H4') (a := rl) (o := .lst (us.map r2))
  have hU := hU.same (same_upd (u := .lst (us.map r2)) hrl)
  generalize upd H4' rl (.lst (us.map r2)) = H5' at sG krl hU
  have ndu : (us.map fun q : T2 => q.2.1).Nodup := by
    have := rowV_nd nd ms ks
    rw [← hv] at this
    unfold v2 at this
    rw [List.map_map] at this
    exact this
  refine ⟨rl, us, rfl, .inl (.inl krl), hU, ndu, by omega, fun ro qs' fro pm' pw' => ?_⟩
  have sR := same_upd' (u := .lst (qs'.map r2)) sG fro
  have kro := upd_same (H := H5') (a := ro) (o := .lst (qs'.map r2))
  have hQ' : T2s (upd H5' ro (.lst (qs'.map r2))) qs' := fun p hp => same_upd fro _ _ (hU p (pm'.mem_iff.mp hp))
  show (fun H6' => _) (upd H5' ro (.lst (qs'.map r2)))
  generalize upd H5' ro (.lst (qs'.map r2)) = H6' at sR kro hQ'
  have kbk := sR _ _ kbk
  have khd := sR _ _ khd
  have hP := hP.same sR
  refine ⟨_, rfl, hd, ps, rfl, khd, hP, lps, l64, fun H7' l qs s7' fl kl hT pm pw => ?_⟩
  have ok := kn_ok (vD ps)
  have ev : v2 qs = v2 qs' := by
    refine ks_ext pw ?_ fun v => ?_
    · refine List.pairwise_map.mpr (pw'.imp fun {x y} h => ?_)
      exact (show keyL x.2.1 < keyL y.2.1 from of_decide_eq_true (show decide (keyL x.2.1 < keyL y.2.1) = true from h))
    · rw [pm.mem_iff, row_same nd bok hm hk v, ← hv]
      exact (pm'.map (fun q : T2 => q.2)).mem_iff.symm
  have lq : qs.length < 64 := by
    have := pm.length_eq
    unfold v2 at this
    rw [List.length_map] at this
    omega
  have lq' : qs'.length ≤ 64 := by rw [pm'.length_eq]; omega
  refine ⟨_, rfl, _, rfl, l, ro, qs.map t2r, qs'.map t2r, rfl, by rw [t2r_sr]; exact kl, by rw [t2r_sr]; exact s7' _ _ kro, t2r_rws hT, t2r_rws (hQ'.same s7'), t2r_v ev, t2r_pl _, by rw [List.length_map]; omega, _, rfl, iteF ?_⟩
  refine ⟨_, rfl, l, rfl, ⟨_, .inl (.inl kl)⟩, ?_⟩
  refine comp_all (fun q : T2 => .int q.2.2) (.inl (.inl kl)) (szOk (by omega)) (fun x H' hx sm' R hR => ?_) (fun H8' s8' l3 hl3 => ?_)
  · exact ⟨rfl, _, rfl, x.1, _, _, _, rfl, rfl, .inl (.inl (sm' _ _ (hT x hx))), rfl, hR _ (Same.refl _)⟩
  have s9' := same_upd' (u := .lst (qs.map fun q : T2 => V.int q.2.2)) s8' hl3
  have esum : (qs.map fun q : T2 => q.2.2).sum = 0 := by
    have := perm_sumI (pm.map (·.2))
    rw [ok.sum] at this
    unfold v2 at this
    rw [List.map_map] at this
    exact this
  refine ⟨l3, qs.map (fun q : T2 => q.2.2), rfl, .inl (.inl (by rw [upd_same, List.map_map]; rfl)), rfl, false, (by rw [esum]; rfl), iteF ?_⟩
  have kbk := s9' _ _ (s7' _ _ kbk)
  have khd := s9' _ _ (s7' _ _ khd)
  have hP := (hP.same s7').same s9'
  have kl := s9' _ _ kl
  have nlb : bk ≠ l := ne_of_none (sR _ _ (by assumption)) fl
  generalize upd H8' l3 (.lst (qs.map fun q : T2 => V.int q.2.2)) = H9' at kbk khd hP kl
  refine ⟨_, rfl, _, rfl, hd, bk, ps.map tdr, ps.map tdr, rfl, by rw [tdr_sr]; exact khd, by rw [tdr_sr]; exact kbk, tdr_rws hP, tdr_rws hP, rfl, tdr_pl _, by rw [List.length_map]; omega, _, rfl, iteF ?_⟩
  refine ⟨_, rfl, .inl ⟨rfl, _, .inl (.inl kl)⟩, l, _, _, rfl, rfl, kl, by rw [List.length_map]; exact szLt (by omega), ?_⟩
  have kbk := upd_oth (u := .lst (qs.map r2 ++ [V.int 1])) kbk nlb
  have hP : Tds (upd H9' l (.lst (qs.map r2 ++ [V.int 1]))) ps := fun y hy => upd_oth (hP y hy) fun z => by
    have := hP y hy
    rw [z, kl] at this
    cases this
  generalize upd H9' l (.lst (qs.map r2 ++ [V.int 1])) = HU at kbk hP
  refine ⟨_, rfl, _, rfl, bk, _, rfl, .inl (.inl kbk), fun p1 hp1 => ?_⟩
  rw [cut_one]
  have sU := same_upd (u := .lst ((ps.drop 1).map rd)) hp1
  have kn1 : (kn (vD (ps.drop 1))).length < 64 := by
    have := kn_len (ps := vD (ps.drop 1)) (nm := nm) fun p hp => bok.mem p (by
      unfold vD at hp ⊢
      rw [List.map_drop] at hp
      exact List.mem_of_mem_drop hp)
    omega
  refine ⟨p1, ps.drop 1, rfl, upd_same, (fun y hy => sU _ _ (hP y (List.mem_of_mem_drop hy))), by rw [List.length_drop]; omega, kn1, fun HV sV => ⟨true, rfl, iteT ?_⟩⟩
  refine ⟨by walk_at "sz", fun e0 he0 => ⟨e0, [], rfl, upd_same, (fun _ z => by cases z), Nat.zero_le _, (by decide), fun HW sW => ⟨true, rfl, iteT ?_⟩⟩⟩
  have sX := (sU.trans sV).trans ((same_upd (u := .lst []) he0).trans sW)
  exact ⟨_, rfl, bk, ps, rfl, sX _ _ kbk, hP.same sX, lps, l64, fun HX _ => q _⟩
end
theorem all_mk {l : PySem.W.OpenLaw} {w : World} {K : PySem.W.Frag} {h : Heap} {mg : Str → Option Value} {fa f_net_of f_nets f__law_cell_at f__law_name f__law_deeds f__law_plain f__law_row f__law_rows f__law_part_right f__law_book f_law  : Addr} (X : K.In h) (G : h.Ns mainGlobals mg) (hfa : mg "law" = some (.ref fa))
    {od_net_of an_net_of od_nets an_nets od__law_cell_at an__law_cell_at od__law_name an__law_name od__law_deeds an__law_deeds od__law_plain an__law_plain od__law_row an__law_row od__law_rows an__law_rows od__law_part_right an__law_part_right od__law_book an__law_book od_law an_law : Option Addr} {sl_net_of sl_nets sl__law_cell_at sl__law_name sl__law_deeds sl__law_plain sl__law_row sl__law_rows sl__law_part_right sl__law_book sl_law : Array (Option Value)} {oc_net_of kV_net_of dc_net_of pm_net_of cd_net_of ct_net_of oc_nets kV_nets dc_nets pm_nets cd_nets ct_nets oc__law_cell_at kV__law_cell_at dc__law_cell_at pm__law_cell_at cd__law_cell_at ct__law_cell_at oc__law_name kV__law_name dc__law_name pm__law_name cd__law_name ct__law_name oc__law_deeds kV__law_deeds dc__law_deeds pm__law_deeds cd__law_deeds ct__law_deeds oc__law_plain kV__law_plain dc__law_plain pm__law_plain cd__law_plain ct__law_plain oc__law_row kV__law_row dc__law_row pm__law_row cd__law_row ct__law_row oc__law_rows kV__law_rows dc__law_rows pm__law_rows cd__law_rows ct__law_rows oc__law_part_right kV__law_part_right dc__law_part_right pm__law_part_right cd__law_part_right ct__law_part_right oc__law_book kV__law_book dc__law_book pm__law_book cd__law_book ct__law_book oc_law kV_law dc_law pm_law cd_law ct_law : Value} 
    (a_net_of : PySem.W.nsIn K mainGlobals "net_of" = some (some (.ref f_net_of)))
    (l_net_of : K.lookup f_net_of = some ⟨oc_net_of, od_net_of, .func (PySem.W.fnOf "net_of" "net_of" (defArgs (top 1)) (defBody (top 1)) (defScope (top 1)) .none kV_net_of dc_net_of pm_net_of an_net_of cd_net_of ct_net_of), sl_net_of⟩)
    (q_net_of : PySem.W.codeIn K cd_net_of "net_of" = true)
    (k_net_of : PySem.W.keepIn K (.ref f_net_of) = true)
    (a_nets : PySem.W.nsIn K mainGlobals "nets" = some (some (.ref f_nets)))
    (l_nets : K.lookup f_nets = some ⟨oc_nets, od_nets, .func (PySem.W.fnOf "nets" "nets" (defArgs (top 2)) (defBody (top 2)) (defScope (top 2)) .none kV_nets dc_nets pm_nets an_nets cd_nets ct_nets), sl_nets⟩)
    (q_nets : PySem.W.codeIn K cd_nets "nets" = true)
    (k_nets : PySem.W.keepIn K (.ref f_nets) = true)
    (a__law_cell_at : PySem.W.nsIn K mainGlobals "_law_cell_at" = some (some (.ref f__law_cell_at)))
    (l__law_cell_at : K.lookup f__law_cell_at = some ⟨oc__law_cell_at, od__law_cell_at, .func (PySem.W.fnOf "_law_cell_at" "_law_cell_at" (defArgs (top 4)) (defBody (top 4)) (defScope (top 4)) .none kV__law_cell_at dc__law_cell_at pm__law_cell_at an__law_cell_at cd__law_cell_at ct__law_cell_at), sl__law_cell_at⟩)
    (q__law_cell_at : PySem.W.codeIn K cd__law_cell_at "_law_cell_at" = true)
    (k__law_cell_at : PySem.W.keepIn K (.ref f__law_cell_at) = true)
    (a__law_name : PySem.W.nsIn K mainGlobals "_law_name" = some (some (.ref f__law_name)))
    (l__law_name : K.lookup f__law_name = some ⟨oc__law_name, od__law_name, .func (PySem.W.fnOf "_law_name" "_law_name" (defArgs (top 5)) (defBody (top 5)) (defScope (top 5)) .none kV__law_name dc__law_name pm__law_name an__law_name cd__law_name ct__law_name), sl__law_name⟩)
    (q__law_name : PySem.W.codeIn K cd__law_name "_law_name" = true)
    (k__law_name : PySem.W.keepIn K (.ref f__law_name) = true)
    (a__law_deeds : PySem.W.nsIn K mainGlobals "_law_deeds" = some (some (.ref f__law_deeds)))
    (l__law_deeds : K.lookup f__law_deeds = some ⟨oc__law_deeds, od__law_deeds, .func (PySem.W.fnOf "_law_deeds" "_law_deeds" (defArgs (top 6)) (defBody (top 6)) (defScope (top 6)) .none kV__law_deeds dc__law_deeds pm__law_deeds an__law_deeds cd__law_deeds ct__law_deeds), sl__law_deeds⟩)
    (q__law_deeds : PySem.W.codeIn K cd__law_deeds "_law_deeds" = true)
    (k__law_deeds : PySem.W.keepIn K (.ref f__law_deeds) = true)
    (a__law_plain : PySem.W.nsIn K mainGlobals "_law_plain" = some (some (.ref f__law_plain)))
    (l__law_plain : K.lookup f__law_plain = some ⟨oc__law_plain, od__law_plain, .func (PySem.W.fnOf "_law_plain" "_law_plain" (defArgs (top 8)) (defBody (top 8)) (defScope (top 8)) .none kV__law_plain dc__law_plain pm__law_plain an__law_plain cd__law_plain ct__law_plain), sl__law_plain⟩)
    (q__law_plain : PySem.W.codeIn K cd__law_plain "_law_plain" = true)
    (k__law_plain : PySem.W.keepIn K (.ref f__law_plain) = true)
    (a__law_row : PySem.W.nsIn K mainGlobals "_law_row" = some (some (.ref f__law_row)))
    (l__law_row : K.lookup f__law_row = some ⟨oc__law_row, od__law_row, .func (PySem.W.fnOf "_law_row" "_law_row" (defArgs (top 9)) (defBody (top 9)) (defScope (top 9)) .none kV__law_row dc__law_row pm__law_row an__law_row cd__law_row ct__law_row), sl__law_row⟩)
    (q__law_row : PySem.W.codeIn K cd__law_row "_law_row" = true)
    (k__law_row : PySem.W.keepIn K (.ref f__law_row) = true)
    (a__law_rows : PySem.W.nsIn K mainGlobals "_law_rows" = some (some (.ref f__law_rows)))
    (l__law_rows : K.lookup f__law_rows = some ⟨oc__law_rows, od__law_rows, .func (PySem.W.fnOf "_law_rows" "_law_rows" (defArgs (top 10)) (defBody (top 10)) (defScope (top 10)) .none kV__law_rows dc__law_rows pm__law_rows an__law_rows cd__law_rows ct__law_rows), sl__law_rows⟩)
    (q__law_rows : PySem.W.codeIn K cd__law_rows "_law_rows" = true)
    (k__law_rows : PySem.W.keepIn K (.ref f__law_rows) = true)
    (a__law_part_right : PySem.W.nsIn K mainGlobals "_law_part_right" = some (some (.ref f__law_part_right)))
    (l__law_part_right : K.lookup f__law_part_right = some ⟨oc__law_part_right, od__law_part_right, .func (PySem.W.fnOf "_law_part_right" "_law_part_right" (defArgs (top 11)) (defBody (top 11)) (defScope (top 11)) .none kV__law_part_right dc__law_part_right pm__law_part_right an__law_part_right cd__law_part_right ct__law_part_right), sl__law_part_right⟩)
    (q__law_part_right : PySem.W.codeIn K cd__law_part_right "_law_part_right" = true)
    (k__law_part_right : PySem.W.keepIn K (.ref f__law_part_right) = true)
    (a__law_book : PySem.W.nsIn K mainGlobals "_law_book" = some (some (.ref f__law_book)))
    (l__law_book : K.lookup f__law_book = some ⟨oc__law_book, od__law_book, .func (PySem.W.fnOf "_law_book" "_law_book" (defArgs (top 7)) (defBody (top 7)) (defScope (top 7)) .none kV__law_book dc__law_book pm__law_book an__law_book cd__law_book ct__law_book), sl__law_book⟩)
    (q__law_book : PySem.W.codeIn K cd__law_book "_law_book" = true)
    (k__law_book : PySem.W.keepIn K (.ref f__law_book) = true)
    (a_law : PySem.W.nsIn K mainGlobals "law" = some (some (.ref f_law)))
    (l_law : K.lookup f_law = some ⟨oc_law, od_law, .func (PySem.W.fnOf "law" "law" (defArgs (top 12)) (defBody (top 12)) (defScope (top 12)) .none kV_law dc_law pm_law an_law cd_law ct_law), sl_law⟩)
    (q_law : PySem.W.codeIn K cd_law "law" = true)
    (k_law : PySem.W.keepIn K (.ref f_law) = true)
    (z_bool : PySem.W.nsIn K mainGlobals "bool" = some none)
    (z_int : PySem.W.nsIn K mainGlobals "int" = some none)
    (z_isinstance : PySem.W.nsIn K mainGlobals "isinstance" = some none)
    (z_len : PySem.W.nsIn K mainGlobals "len" = some none)
    (z_list : PySem.W.nsIn K mainGlobals "list" = some none)
    (z_max : PySem.W.nsIn K mainGlobals "max" = some none)
    (z_min : PySem.W.nsIn K mainGlobals "min" = some none)
    (z_range : PySem.W.nsIn K mainGlobals "range" = some none)
    (z_sorted : PySem.W.nsIn K mainGlobals "sorted" = some none)
    (z_str : PySem.W.nsIn K mainGlobals "str" = some none)
    (z_sum : PySem.W.nsIn K mainGlobals "sum" = some none)
    (z_tuple : PySem.W.nsIn K mainGlobals "tuple" = some none)
    : ∃ fd : FuncData, (∀ (s : Shared) (v : Value), BindsTo s fd ⟨[v], []⟩ [("script", v)]) ∧ ∀ base : Heap, K.In base → base.Ns mainGlobals mg → FnOk l.prog w K mg base CX0 5 fa fd ["script"] (sp_law K) := by
  have e := hfa.symm.trans (PySem.W.mg_of X G a_law)
  cases e
  have B : Bl mg := ⟨PySem.W.mg_none_of X G z_bool, PySem.W.mg_none_of X G z_int, PySem.W.mg_none_of X G z_isinstance, PySem.W.mg_none_of X G z_len, PySem.W.mg_none_of X G z_list, PySem.W.mg_none_of X G z_max, PySem.W.mg_none_of X G z_min, PySem.W.mg_none_of X G z_range, PySem.W.mg_none_of X G z_sorted, PySem.W.mg_none_of X G z_str, PySem.W.mg_none_of X G z_sum, PySem.W.mg_none_of X G z_tuple⟩
  let C : Co mg := ⟨⟩
  let R : Er K mg := ⟨⟩
  let d_net_of : Dv K mg "net_of" (top 1) ["book", "who"] := ⟨f_net_of, _, fun_mk (st := top 1) l_net_of q_net_of k_net_of, (fun_mk (st := top 1) l_net_of q_net_of k_net_of).binds fun _ _ _ _ _ _ us hl => match us, hl with | [_, _], _ => rfl, PySem.W.mg_of X G a_net_of⟩
  let d_nets : Dv K mg "nets" (top 2) ["book"] := ⟨f_nets, _, fun_mk (st := top 2) l_nets q_nets k_nets, (fun_mk (st := top 2) l_nets q_nets k_nets).binds fun _ _ _ _ _ _ us hl => match us, hl with | [_], _ => rfl, PySem.W.mg_of X G a_nets⟩
  let d__law_cell_at : Dv K mg "_law_cell_at" (top 4) ["script", "k"] := ⟨f__law_cell_at, _, fun_mk (st := top 4) l__law_cell_at q__law_cell_at k__law_cell_at, (fun_mk (st := top 4) l__law_cell_at q__law_cell_at k__law_cell_at).binds fun _ _ _ _ _ _ us hl => match us, hl with | [_, _], _ => rfl, PySem.W.mg_of X G a__law_cell_at⟩
  let d__law_name : Dv K mg "_law_name" (top 5) ["k", "cell"] := ⟨f__law_name, _, fun_mk (st := top 5) l__law_name q__law_name k__law_name, (fun_mk (st := top 5) l__law_name q__law_name k__law_name).binds fun _ _ _ _ _ _ us hl => match us, hl with | [_, _], _ => rfl, PySem.W.mg_of X G a__law_name⟩
  let d__law_deeds : Dv K mg "_law_deeds" (top 6) ["script", "many"] := ⟨f__law_deeds, _, fun_mk (st := top 6) l__law_deeds q__law_deeds k__law_deeds, (fun_mk (st := top 6) l__law_deeds q__law_deeds k__law_deeds).binds fun _ _ _ _ _ _ us hl => match us, hl with | [_, _], _ => rfl, PySem.W.mg_of X G a__law_deeds⟩
  let d__law_plain : Dv K mg "_law_plain" (top 8) ["found", "due"] := ⟨f__law_plain, _, fun_mk (st := top 8) l__law_plain q__law_plain k__law_plain, (fun_mk (st := top 8) l__law_plain q__law_plain k__law_plain).binds fun _ _ _ _ _ _ us hl => match us, hl with | [_, _], _ => rfl, PySem.W.mg_of X G a__law_plain⟩
  let d__law_row : Dv K mg "_law_row" (top 9) ["found", "due"] := ⟨f__law_row, _, fun_mk (st := top 9) l__law_row q__law_row k__law_row, (fun_mk (st := top 9) l__law_row q__law_row k__law_row).binds fun _ _ _ _ _ _ us hl => match us, hl with | [_, _], _ => rfl, PySem.W.mg_of X G a__law_row⟩
  let d__law_rows : Dv K mg "_law_rows" (top 10) ["found", "due"] := ⟨f__law_rows, _, fun_mk (st := top 10) l__law_rows q__law_rows k__law_rows, (fun_mk (st := top 10) l__law_rows q__law_rows k__law_rows).binds fun _ _ _ _ _ _ us hl => match us, hl with | [_, _], _ => rfl, PySem.W.mg_of X G a__law_rows⟩
  let d__law_part_right : Dv K mg "_law_part_right" (top 11) ["book"] := ⟨f__law_part_right, _, fun_mk (st := top 11) l__law_part_right q__law_part_right k__law_part_right, (fun_mk (st := top 11) l__law_part_right q__law_part_right k__law_part_right).binds fun _ _ _ _ _ _ us hl => match us, hl with | [_], _ => rfl, PySem.W.mg_of X G a__law_part_right⟩
  let d__law_book : Dv K mg "_law_book" (top 7) ["deeds", "names"] := ⟨f__law_book, _, fun_mk (st := top 7) l__law_book q__law_book k__law_book, (fun_mk (st := top 7) l__law_book q__law_book k__law_book).binds fun _ _ _ _ _ _ us hl => match us, hl with | [_, _], _ => rfl, PySem.W.mg_of X G a__law_book⟩
  let d_law : Dv K mg "law" (top 12) ["script"] := ⟨_, _, fun_mk (st := top 12) l_law q_law k_law, (fun_mk (st := top 12) l_law q_law k_law).binds fun _ _ _ _ _ _ us hl => match us, hl with | [_], _ => rfl, PySem.W.mg_of X G a_law⟩
  refine ⟨d_law.fd, fun s v => .of_eq rfl, fun base _ _ => ?_⟩
  have G_net_of := ok_net_of (P := l.prog) (w := w) (base := base) d_net_of B C R 
  have G_nets := ok_nets (P := l.prog) (w := w) (base := base) d_nets B C R 
  have G__law_cell_at := ok__law_cell_at (P := l.prog) (w := w) (base := base) d__law_cell_at B C R 
  have G__law_name := ok__law_name (P := l.prog) (w := w) (base := base) d__law_name B C R 
  have G__law_deeds := ok__law_deeds (P := l.prog) (w := w) (base := base) d__law_deeds B C R d__law_cell_at G__law_cell_at
  have G__law_plain := ok__law_plain (P := l.prog) (w := w) (base := base) d__law_plain B C R 
  have G__law_row := ok__law_row (P := l.prog) (w := w) (base := base) d__law_row B C R d__law_plain G__law_plain
  have G__law_rows := ok__law_rows (P := l.prog) (w := w) (base := base) d__law_rows B C R d__law_row G__law_row
  have G__law_part_right := ok__law_part_right (P := l.prog) (w := w) (base := base) d__law_part_right B C R d__law_rows G__law_rows d_nets G_nets
  have G__law_book := ok__law_book (P := l.prog) (w := w) (base := base) d__law_book B C R 
  exact ok_law d_law B C R d__law_cell_at G__law_cell_at d__law_name G__law_name d__law_deeds G__law_deeds d__law_book G__law_book d__law_plain G__law_plain d_net_of G_net_of d_nets G_nets d__law_rows G__law_rows d__law_part_right G__law_part_right
theorem walk {l : PySem.W.OpenLaw} {q : Program} {loose : List Str} {XP : (Str → Option Value) → Heap → Prop} {YP : World → Heap → Prop} {d : DefRec} {K : Params → PySem.W.Frag} (hn : l.most = some 63) (hdf : d.params.defaults = [])
    (hY : ∀ (w : World) (h : Heap), YP w h → (K w.params).In h)
    (F : ∀ (w : World) (mg : Str → Option Value) (fa : Addr) (h : Heap), (K w.params).In h → h.Ns mainGlobals mg → mg d.name = some (.ref fa) →
      ∃ fd : FuncData, (∀ (s : Shared) (u : Value), BindsTo s fd ⟨[u], []⟩ [("script", u)]) ∧ ∀ base : Heap, (K w.params).In base → base.Ns mainGlobals mg → FnOk l.prog w (K w.params) mg base CX0 5 fa fd ["script"] (sp_law (K w.params))) :
    PySem.W.WalkO q loose XP YP l.row.toRowW d [] (fun f vs => PySem.call f vs) :=
  L2.walk_ofL (n := 63) (k := 5) (x := "script") (CX := fun _ => CX0) (sp := fun w => sp_law (K w.params)) hn (by decide) hdf ⟨rfl, by decide, by decide⟩ hY F (fun _ _ a ns hl hb hS => ⟨a, ns, rfl, hS, hl, hb, fun _ => rfl⟩) fun _ _ _ _ _ z => z
end K51
open PySem PySem.W PyProof.Rows
set_option maxRecDepth 100000 in
set_option maxHeartbeats 0 in
theorem PySem.Challenge.cw_bellbook_k51_nets_holds : PySem.Challenge.rw_bellbook_k51_nets.Holds := by
  w_on; o_law; k_head; (case hw => w_witness2)
  k_fill
  refine K51.walk (l := PySem.Challenge.rw_bellbook_k51_nets) rfl rfl (fun w h Y => PySem.W.kIn_of Y) ?F
  case F =>
    intro w mg fa h KX G hmg
    refine' K51.all_mk KX G hmg ?a_net_of ?l_net_of ?q_net_of ?k_net_of ?a_nets ?l_nets ?q_nets ?k_nets ?a__law_cell_at ?l__law_cell_at ?q__law_cell_at ?k__law_cell_at ?a__law_name ?l__law_name ?q__law_name ?k__law_name ?a__law_deeds ?l__law_deeds ?q__law_deeds ?k__law_deeds ?a__law_plain ?l__law_plain ?q__law_plain ?k__law_plain ?a__law_row ?l__law_row ?q__law_row ?k__law_row ?a__law_rows ?l__law_rows ?q__law_rows ?k__law_rows ?a__law_part_right ?l__law_part_right ?q__law_part_right ?k__law_part_right ?a__law_book ?l__law_book ?q__law_book ?k__law_book ?a_law ?l_law ?q_law ?k_law ?z_bool ?z_int ?z_isinstance ?z_len ?z_list ?z_max ?z_min ?z_range ?z_sorted ?z_str ?z_sum ?z_tuple
    (case a_net_of => k_is)
    (case l_net_of => k_is)
    (case q_net_of => k_is)
    (case k_net_of => k_is)
    (case a_nets => k_is)
    (case l_nets => k_is)
    (case q_nets => k_is)
    (case k_nets => k_is)
    (case a__law_cell_at => k_is)
    (case l__law_cell_at => k_is)
    (case q__law_cell_at => k_is)
    (case k__law_cell_at => k_is)
    (case a__law_name => k_is)
    (case l__law_name => k_is)
    (case q__law_name => k_is)
    (case k__law_name => k_is)
    (case a__law_deeds => k_is)
    (case l__law_deeds => k_is)
    (case q__law_deeds => k_is)
    (case k__law_deeds => k_is)
    (case a__law_plain => k_is)
    (case l__law_plain => k_is)
    (case q__law_plain => k_is)
    (case k__law_plain => k_is)
    (case a__law_row => k_is)
    (case l__law_row => k_is)
    (case q__law_row => k_is)
    (case k__law_row => k_is)
    (case a__law_rows => k_is)
    (case l__law_rows => k_is)
    (case q__law_rows => k_is)
    (case k__law_rows => k_is)
    (case a__law_part_right => k_is)
    (case l__law_part_right => k_is)
    (case q__law_part_right => k_is)
    (case k__law_part_right => k_is)
    (case a__law_book => k_is)
    (case l__law_book => k_is)
    (case q__law_book => k_is)
    (case k__law_book => k_is)
    (case a_law => k_is)
    (case l_law => k_is)
    (case q_law => k_is)
    (case k_law => k_is)
    (case z_bool => k_is)
    (case z_int => k_is)
    (case z_isinstance => k_is)
    (case z_len => k_is)
    (case z_list => k_is)
    (case z_max => k_is)
    (case z_min => k_is)
    (case z_range => k_is)
    (case z_sorted => k_is)
    (case z_str => k_is)
    (case z_sum => k_is)
    (case z_tuple => k_is)

