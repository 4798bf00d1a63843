import PyProof.Rows.All
import Wide.All
import OpenK.AllK
import Wide.FinOn
import Lean
import PyProof.EqAt
import PyProof.EqKinds
import PyProof.TupleCall
import KE.KIsAll
import PyProof.ExcArgsOwn
import PyProof.ExcAttrAll.ValueError
import KE.KTryMore
import PyProof.NeKinds
import PyProof.Rows.CallKwBuiltin
import KE.KUnpack
import KE.KItemsList
import PyProof.Rows.SortWalk
import KE.KSortTup
import PyProof.Rows.SortStr
import PyProof.Rows.SetFrom
import KE.KDictList
import KE.KRevIter
import KE.KDictOf
import PyProof.AttrMissHeap
import PyProof.ZipIter
import PyProof.Rows.StrInSeq3
import PyProof.ListRange
import KE.KEqDict
import PySem.Challenge.RW_bellbook_k56_whole_no_ring_is_left
set_option Elab.async false
set_option linter.all false
set_option maxRecDepth 100000
namespace L2
open PySem PySem.Spec PyProof.Rows
abbrev Key := Sum Int Str
def keyIs : Key → Value → Bool
  | .inl k, v => Value.isInt k v
  | .inr x, v => Value.isStrOf x v
def keyH (w : World) : Key → Int
  | .inl k => hashInt k
  | .inr x => hashStr w x
theorem keyIs_shape : ∀ {k : Key} {v : Value}, keyIs k v = true → (∃ i t, k = Sum.inl i ∧ v = Value.int i t) ∨ (∃ x t, k = Sum.inr x ∧ v = Value.str x t)
  | .inl i, v, h => by
    obtain ⟨t, e⟩ := Value.isInt_shape (k := i) (v := v) h
    exact .inl ⟨i, t, rfl, e⟩
  | .inr x, v, h => by
    obtain ⟨t, e⟩ := Value.isStrOf_shape (x := x) (v := v) h
    exact .inr ⟨x, t, rfl, e⟩
theorem keyIs_int (i : Int) (t : Tok) : keyIs (.inl i) (.int i t) = true := by simp [keyIs, Value.isInt]
theorem keyIs_str (x : Str) (t : Tok) : keyIs (.inr x) (.str x t) = true := by simp [keyIs, Value.isStrOf]
theorem key_ll (a b : Int) : decide ((Sum.inl a : Key) = Sum.inl b) = (a == b) := by
  by_cases e : a = b
  · subst e; simp
  · have h : ¬ (Sum.inl a : Key) = Sum.inl b := fun q => e (Sum.inl.inj q)
    rw [decide_eq_false h]
    exact (beq_eq_false_iff_ne.mpr e).symm
theorem key_rr (a b : Str) : decide ((Sum.inr a : Key) = Sum.inr b) = decide (a = b) := by
  by_cases e : a = b
  · subst e; simp
  · have h : ¬ (Sum.inr a : Key) = Sum.inr b := fun q => e (Sum.inr.inj q)
    rw [decide_eq_false h, decide_eq_false e]
theorem key_lr (a : Int) (b : Str) : decide ((Sum.inl a : Key) = Sum.inr b) = false := decide_eq_false (fun q => nomatch q)
theorem key_rl (a : Str) (b : Int) : decide ((Sum.inr a : Key) = Sum.inl b) = false := decide_eq_false (fun q => nomatch q)
def mixKind (prog : Program) (w : World) : PySem.KeyKind prog w Key where
  is := keyIs
  hash := keyH w
  inj := fun v a b ha hb => by
    rcases keyIs_shape ha with ⟨i, t, rfl, rfl⟩ | ⟨x, t, rfl, rfl⟩
    · rcases keyIs_shape hb with ⟨j, u, rfl, e⟩ | ⟨y, u, rfl, e⟩
      · injection e with e1 _; rw [e1]
      · exact nomatch e
    · rcases keyIs_shape hb with ⟨j, u, rfl, e⟩ | ⟨y, u, rfl, e⟩
      · exact nomatch e
      · injection e with e1 _; rw [e1]
  byValue := fun k v h => by
    rcases keyIs_shape h with ⟨i, t, rfl, rfl⟩ | ⟨x, t, rfl, rfl⟩ <;> rfl
  pyHash := fun hv h => by
    rcases keyIs_shape hv with ⟨i, t, rfl, rfl⟩ | ⟨x, t, rfl, rfl⟩
    · exact wpAny_pyHash_int h
    · exact wpAny_pyHash_str h
  eqBool := fun hu hv h => by
    rcases keyIs_shape hu with ⟨i, t, rfl, rfl⟩ | ⟨x, t, rfl, rfl⟩
    · rcases keyIs_shape hv with ⟨j, u, rfl, rfl⟩ | ⟨y, u, rfl, rfl⟩
      · rw [key_ll] at h; exact wpAny_eqBool_int h
      · rw [key_lr] at h; exact SeqAt.EqAt.int_str i t y u _ _ _ _ h
    · rcases keyIs_shape hv with ⟨j, u, rfl, rfl⟩ | ⟨y, u, rfl, rfl⟩
      · rw [key_rl] at h; exact SeqAt.EqAt.str_int x t j u _ _ _ _ h
      · rw [key_rr] at h; exact wpAny_eqBool_str h
  «strs» := fun k x t v h => by
    rcases keyIs_shape h with ⟨i, u, rfl, e⟩ | ⟨y, u, rfl, e⟩
    · exact nomatch e
    · injection e with e1 _
      subst e1
      cases v <;> rfl
theorem mixKind_int (prog : Program) (w : World) (i : Int) (t : Tok) : (mixKind prog w).is (.inl i) (.int i t) = true := keyIs_int i t
theorem mixKind_str (prog : Program) (w : World) (x : Str) (t : Tok) : (mixKind prog w).is (.inr x) (.str x t) = true := keyIs_str x t
end L2
namespace L2
open PySem PySem.Spec PyProof.Rows
inductive V where
  | non | bl (b : Bool) | int (i : Int) | str (x : Str) | byt (b : Array UInt8) | flt (b : UInt64) | ref (a : Addr) | ty (n : String)
  deriving DecidableEq
def RelV : V → Value → Prop
  | .non, u => u = Value.none
  | .bl b, u => u = Value.bool b
  | .int i, u => ∃ t, u = Value.int i t
  | .str x, u => ∃ t, u = Value.str x t
  | .byt b, u => ∃ t, u = Value.bytes b t
  | .flt b, u => ∃ t, u = Value.float b t
  | .ref a, u => u = Value.ref a
  | .ty n, u => u = Value.type n
abbrev Vals : List V → List Value → Prop := Paired RelV
theorem Vals.length {xs : List V} {us : List Value} (r : Vals xs us) : xs.length = us.length := Paired.length r
theorem Vals.get : ∀ {xs : List V} {us : List Value} {i : Nat} {x : V}, Vals xs us → xs[i]? = some x → ∃ u, us[i]? = some u ∧ RelV x u
  | _, _, _, _, .nil, e => by simp at e
  | _, _, 0, _, .cons r _, e => by simp at e; subst e; exact ⟨_, rfl, r⟩
  | _, _, i + 1, x, .cons _ t, e => by
    obtain ⟨u, h1, h2⟩ := Vals.get (i := i) (x := x) t (by simpa using e)
    exact ⟨u, by simpa using h1, h2⟩
theorem Vals.append : ∀ {xs ys : List V} {us ws : List Value}, Vals xs us → Vals ys ws → Vals (xs ++ ys) (us ++ ws)
  | _, _, _, _, .nil, s => s
  | _, _, _, _, .cons r t, s => .cons r (Vals.append t s)
theorem Vals.take : ∀ {xs : List V} {us : List Value} (n : Nat), Vals xs us → Vals (xs.take n) (us.take n)
  | _, _, 0, _ => .nil
  | _, _, _ + 1, .nil => .nil
  | _, _, n + 1, .cons r t => .cons r (Vals.take n t)
theorem Vals.drop : ∀ {xs : List V} {us : List Value} (n : Nat), Vals xs us → Vals (xs.drop n) (us.drop n)
  | _, _, 0, r => r
  | _, _, _ + 1, .nil => .nil
  | _, _, n + 1, .cons _ t => Vals.drop n t
def RelO : Option V → Option Value → Prop
  | some v, some u => RelV v u
  | none, none => True
  | _, _ => False
def KV {κ : Type} : List (κ × V) → List (κ × Value) → Prop := Paired fun (p : κ × V) (q : κ × Value) => p.1 = q.1 ∧ RelV p.2 q.2
def kV : Key → V
  | .inl i => .int i
  | .inr x => .str x
inductive HO where
  | lst (xs : List V)
  | tup (xs : List V)
  | dK (kvs : List (Key × V)) | dT (kvs : List (List Key × V))
  | set (S : Int → Bool) (n : Nat)
  | ins (C dx : Addr) (fs : List (Str × V))
  | own (x : Addr)
  | xd (fs : List (Str × V))
  | met (f x : Addr)
  | rng (lo hi : Int)
  | frz (o : Obj) (u : HO)
  | tbl (ps : Array Value)
  | ext (φ : Heap → Prop)
abbrev Hp := Addr → Option HO
def upd (H : Hp) (a : Addr) (o : HO) : Hp := fun b => if b = a then some o else H b
theorem upd_same {H : Hp} {a : Addr} {o : HO} : upd H a o a = some o := by unfold upd; rw [if_pos rfl]
theorem upd_ne {H : Hp} {a b : Addr} {o : HO} (h : b ≠ a) : upd H a o b = H b := by unfold upd; rw [if_neg h]
theorem ne_of {H : Hp} {a b : Addr} {o u : HO} (h : H a = some o) (h' : H b = some u) (d : o ≠ u) : a ≠ b := by
  intro e; subst e; rw [h] at h'; exact d (Option.some.inj h')
theorem ne_of_none {H : Hp} {a b : Addr} {o : HO} (h : H a = some o) (h' : H b = none) : a ≠ b := by
  intro e; subst e; rw [h] at h'; cases h'
section
variable (P : Program) (w : World)
def ObjOk (H : Hp) (h : Heap) (a : Addr) : HO → Prop
  | .lst xs => xs.length ≤ sizeLine ∧ ∃ (its : List Value) (n : Nat), Vals xs its ∧ h.get? a = some { cls := .type "list", data := .seq its.toArray n }
  | .tup xs => xs.length ≤ sizeLine ∧ ∃ its : List Value, Vals xs its ∧ IsTup h a its.toArray
  | .dK kvs => kvs.length ≤ sizeLine ∧ (a == sysModules) = false ∧ ∃ vs, KV kvs vs ∧ h.DictOf (mixKind P w) a vs
  | .dT kvs => kvs.length ≤ sizeLine ∧ (a == sysModules) = false ∧ ∃ xs : List (List Key × Addr × Value),
      Paired (fun (p : List Key × V) (q : List Key × Addr × Value) => p.1 = q.1 ∧ H q.2.1 = some (.tup (p.1.map kV)) ∧ RelV p.2 q.2.2) kvs xs ∧
      ∃ o es ep, h.get? a = some o ∧ o.ExactDict ∧ o.data = .dict es ep ∧ es.toList = xs.map (entryOfKey (tupleKind (mixKind P w))) ∧ (xs.map (·.1)).Nodup
  | .set S n => h.SetOf (intKind P w) a S n
  | .ins C dx fs => H dx = some (.own a) ∧ fs.length ≤ 1000 ∧ dx ≠ a ∧ h.get? a = some (PySem.W.instObj C dx) ∧
      ∃ mA, h.Ns1 dx mA ∧ (∀ f, RelO (fs.lookup f) (mA f)) ∧ PySem.Within mA (fs.map (·.1))
  | .own _ => ∃ o, h.get? a = some o
  | .xd fs => ∃ mA, h.Ns1 a mA ∧ ∀ f, RelO (fs.lookup f) (mA f)
  | .rng lo hi => ∃ t u v, h.get? a = some { cls := .type "range", data := .fields #[.int lo t, .int hi u, .int 1 v] }
  | .frz o u => h.get? a = some o ∧ ObjOk H h a u
  | .tbl ps => h.get? a = some { cls := .none, data := .fields ps }
  | .met f x => h.get? a = some (PySem.W.methodObj (.ref f) (.ref x))
  | .ext φ => φ h ∧ (∃ o, h.get? a = some o) ∧ ∀ h1 h2 : Heap, φ h1 → (∀ o, h1.get? a = some o → h2.get? a = some o) → φ h2
def HOk (H : Hp) (h : Heap) : Prop := ∀ a o, H a = some o → ObjOk P w H h a o
end
section
variable {P : Program} {w : World} {H H' : Hp} {h h' : Heap} {a : Addr} {o : HO}
theorem ObjOk.lt (x : ObjOk P w H h a o) : a < h.objs.size := by
  cases o with
  | lst xs => obtain ⟨_, _, _, _, e⟩ := x; exact Heap.lt_size e
  | tup xs => obtain ⟨_, _, _, p⟩ := x; exact p.lt
  | dK kvs => obtain ⟨_, _, _, _, o, _, _, e, _⟩ := x; exact Heap.lt_size e
  | dT kvs => obtain ⟨_, _, _, _, o, _, _, e, _⟩ := x; exact Heap.lt_size e
  | set S n => obtain ⟨o, _, _, _, e, _⟩ := x; exact Heap.lt_size e
  | ins C dx fs => obtain ⟨_, _, _, e, _⟩ := x; exact Heap.lt_size e
  | own y => obtain ⟨_, e⟩ := x; exact Heap.lt_size e
  | xd fs => obtain ⟨_, ⟨_, _, _, e, _⟩, _⟩ := x; exact Heap.lt_size e
  | rng lo hi => obtain ⟨_, _, _, e⟩ := x; exact Heap.lt_size e
  | frz ob u => obtain ⟨e, _⟩ := x; exact Heap.lt_size e
  | tbl ps => exact Heap.lt_size (show h.get? a = some _ from x)
  | met f y => exact Heap.lt_size (show h.get? a = some _ from x)
  | ext φ => obtain ⟨_, ⟨_, e⟩, _⟩ := x; exact Heap.lt_size e
theorem Paired.mapP {α β : Type} {F G : α → β → Prop} : ∀ {l₁ : List α} {l₂ : List β}, Paired F l₁ l₂ → (∀ a b, F a b → G a b) → Paired G l₁ l₂
  | _, _, .nil, _ => .nil
  | _, _, .cons r t, f => .cons (f _ _ r) (Paired.mapP t f)
theorem ObjOk.stay (x : ObjOk P w H h a o) (k : ∀ b u, (b = a ∨ H b = some (.own a)) → h.get? b = some u → h'.get? b = some u)
    (ho : ∀ b, H b = some (.own a) → H' b = some (.own a)) (ht : ∀ b xs, H b = some (.tup xs) → H' b = some (.tup xs)) : ObjOk P w H' h' a o := by
  induction o with
  | lst xs => obtain ⟨z, its, n, r, e⟩ := x; exact ⟨z, its, n, r, k _ _ (.inl rfl) e⟩
  | tup xs => obtain ⟨z, its, r, ob, e, c⟩ := x; exact ⟨z, its, r, ob, k _ _ (.inl rfl) e, c⟩
  | dK kvs => obtain ⟨z, y, vs, r, ob, es, ep, e, c⟩ := x; exact ⟨z, y, vs, r, ob, es, ep, k _ _ (.inl rfl) e, c⟩
  | dT kvs =>
    obtain ⟨z, y, xs, r, ob, es, ep, e, c⟩ := x
    exact ⟨z, y, xs, Paired.mapP r fun p q z => ⟨z.1, ht _ _ z.2.1, z.2.2⟩, ob, es, ep, k _ _ (.inl rfl) e, c⟩
  | set S n => obtain ⟨ob, es, ep, t, e, c⟩ := x; exact ⟨ob, es, ep, t, k _ _ (.inl rfl) e, c⟩
  | ins C dx fs =>
    obtain ⟨d, z, ne, e, mA, ⟨od, es, ep, e2, c⟩, r⟩ := x
    exact ⟨ho _ d, z, ne, k _ _ (.inl rfl) e, mA, ⟨od, es, ep, k _ _ (.inr d) e2, c⟩, r⟩
  | own y => obtain ⟨ob, e⟩ := x; exact ⟨ob, k _ _ (.inl rfl) e⟩
  | xd fs => obtain ⟨mA, ⟨od, es, ep, e, c⟩, r⟩ := x; exact ⟨mA, ⟨od, es, ep, k _ _ (.inl rfl) e, c⟩, r⟩
  | rng lo hi => obtain ⟨t, u, v, e⟩ := x; exact ⟨t, u, v, k _ _ (.inl rfl) e⟩
  | frz ob u ih => obtain ⟨e, q⟩ := x; exact ⟨k _ _ (.inl rfl) e, ih q⟩
  | tbl ps =>
    have e : h.get? a = some { cls := .none, data := .fields ps } := x
    show h'.get? a = some { cls := .none, data := .fields ps }
    exact k a _ (.inl rfl) e
  | met f y =>
    have e : h.get? a = some (PySem.W.methodObj (.ref f) (.ref y)) := x
    show h'.get? a = some (PySem.W.methodObj (.ref f) (.ref y))
    exact k a _ (.inl rfl) e
  | ext φ => obtain ⟨p, ⟨o, e⟩, st⟩ := x; exact ⟨st _ _ p fun o q => k _ _ (.inl rfl) q, ⟨o, k _ _ (.inl rfl) e⟩, st⟩
theorem HOk.lt (x : HOk P w H h) (e : H a = some o) : a < h.objs.size := (x a o e).lt
theorem HOk.fresh (x : HOk P w H h) (e : h.objs.size ≤ a) : H a = none := by
  cases q : H a with
  | none => rfl
  | some u => exact absurd (Nat.lt_of_lt_of_le (x.lt q) e) (Nat.lt_irrefl _)
theorem HOk.kept (x : HOk P w H h) (k : ∀ b u, h.get? b = some u → h'.get? b = some u) : HOk P w H h' := fun a o e =>
  (x a o e).stay (fun b u _ q => k b u q) (fun _ q => q) fun _ _ q => q
theorem HOk.laid (x : HOk P w H h) (k : ∀ b u, h.get? b = some u → h'.get? b = some u) (hp : h.objs.size ≤ a) (new : ObjOk P w (upd H a o) h' a o) : HOk P w (upd H a o) h' := fun b u e => by
  have hn := x.fresh hp
  by_cases hb : b = a
  · subst hb; rw [upd_same] at e; cases e; exact new
  · rw [upd_ne hb] at e
    exact (x b u e).stay (fun c v _ q => k c v q) (fun c q => by rw [upd_ne (ne_of_none q hn)]; exact q) fun c xs q => by rw [upd_ne (ne_of_none q hn)]; exact q
end
def Rd (H : Hp) (a : Addr) (u : HO) : Prop := H a = some u ∨ ∃ o, H a = some (.frz o u)
theorem Rd.ok {P : Program} {w : World} {H : Hp} {h : Heap} {a : Addr} {u : HO} (r : Rd H a u) (x : HOk P w H h) : ObjOk P w H h a u := by
  rcases r with r | ⟨o, r⟩
  · exact x a u r
  · obtain ⟨_, q⟩ := x a _ r
    exact q
def Mut : Option HO → Prop
  | some (.lst _) => True
  | some (.dK _) => True
  | some (.dT _) => True
  | some (.set _ _) => True
  | some (.ins _ _ _) => True
  | some (.ext _) => True
  | _ => False
section
variable {P : Program} {w : World} {H : Hp} {h h' : Heap} {x e : Addr} {o' : HO}
theorem HOk.write (ok : HOk P w H h) (mu : Mut (H x)) (he : e = x ∨ H e = some (.own x)) (k : ∀ b u, b ≠ e → h.get? b = some u → h'.get? b = some u) (heo : ∃ u, h'.get? e = some u)
    (new : ObjOk P w (upd H x o') h' x o') : HOk P w (upd H x o') h' := fun b u q => by
  have nown : ∀ c y, H c = some (.own y) → c ≠ x := fun c y r z => by subst z; rw [r] at mu; exact mu
  have ntup : ∀ c xs, H c = some (.tup xs) → c ≠ x := fun c xs r z => by subst z; rw [r] at mu; exact mu
  by_cases hb : b = x
  · subst hb; rw [upd_same] at q; cases q; exact new
  · rw [upd_ne hb] at q
    by_cases hbe : b = e
    · have q' : H b = some (.own x) := by
        rcases he with z | z
        · exact absurd (hbe.trans z) hb
        · rw [hbe]; exact z
      rw [q] at q'; cases q'
      obtain ⟨v, hv⟩ := heo
      exact ⟨v, by rw [hbe]; exact hv⟩
    · refine (ok b u q).stay (fun c v hc r => k c v ?_ r) (fun c r => by rw [upd_ne (nown c b r)]; exact r) fun c xs r => by rw [upd_ne (ntup c xs r)]; exact r
      rcases hc with rfl | hc
      · exact hbe
      · rintro rfl
        rcases he with z | z
        · exact nown c b hc z
        · rw [hc] at z; cases z; exact hb rfl
end
structure Un (fs ex : List Addr) (H H' : Hp) (h h' : Heap) : Prop where
  keep : ∀ b o, h.get? b = some o → H b = none → b ∉ fs → b ∉ ex → h'.get? b = some o
  slot : ∀ b o, h.get? b = some o → H b = none → b ∈ fs → b ∉ ex → ∃ sl, h'.get? b = some { o with slots := sl }
  free : ∀ b o, h.get? b = some o → H b = none → b ∉ ex → H' b = none
  there : ∀ b o, h.get? b = some o → b ∉ ex → ∃ o', h'.get? b = some o'
  tups : ∀ b xs, H b = some (.tup xs) → H' b = some (.tup xs)
  frzs : ∀ b o u, H b = some (.frz o u) → H' b = some (.frz o u)
  tbls : ∀ b ps, H b = some (.tbl ps) → ∃ more, H' b = some (.tbl (ps ++ more))
section
variable {fs fs' ex ex' : List Addr} {H H1 H2 : Hp} {h h1 h2 h' : Heap} {a x e : Addr} {o : HO}
theorem Un.any (u : Un fs ex H H1 h h1) {b : Addr} {ob : Obj} (q : h.get? b = some ob) (n : H b = none) (hx : b ∉ ex) : ∃ sl, h1.get? b = some { ob with slots := sl } := by
  by_cases hb : b ∈ fs
  · exact u.slot b ob q n hb hx
  · exact ⟨ob.slots, u.keep b ob q n hb hx⟩
theorem Un.kept (k : ∀ b u, h.get? b = some u → h'.get? b = some u) : Un fs ex H H h h' :=
  ⟨fun b ob q _ _ _ => k b ob q, fun b ob q _ _ _ => ⟨ob.slots, k b ob q⟩, fun _ _ _ n _ => n, fun b ob q _ => ⟨ob, k b ob q⟩, fun _ _ q => q, fun _ _ _ q => q, fun _ ps q => ⟨#[], by rw [q]; simp⟩⟩
theorem Un.refl : Un fs ex H H h h := Un.kept fun _ _ q => q
theorem Un.laid (k : ∀ b u, h.get? b = some u → h'.get? b = some u) (hp : h.objs.size ≤ a) (hn : H a = none) : Un fs ex H (upd H a o) h h' where
  keep := fun b u q _ _ _ => k b u q
  slot := fun b u q _ _ _ => ⟨u.slots, k b u q⟩
  free := fun b u q n _ => by rw [upd_ne (Nat.ne_of_lt (Nat.lt_of_lt_of_le (Heap.lt_size q) hp))]; exact n
  there := fun b u q _ => ⟨u, k b u q⟩
  tups := fun b xs q => by rw [upd_ne (ne_of_none q hn)]; exact q
  frzs := fun b u xs q => by rw [upd_ne (ne_of_none q hn)]; exact q
  tbls := fun b ps q => ⟨#[], by rw [upd_ne (ne_of_none q hn), q]; simp⟩
theorem Un.write (mu : Mut (H x)) (he : e = x ∨ H e = some (.own x)) (k : ∀ b u, b ≠ e → h.get? b = some u → h'.get? b = some u) (heo : ∃ u, h'.get? e = some u) : Un fs ex H (upd H x o) h h' := by
  have hx : ∀ b, H b = none → b ≠ x := fun b n z => by subst z; rw [n] at mu; exact mu
  have hb : ∀ b, H b = none → b ≠ e := fun b n z => by
    subst z
    rcases he with r | r
    · exact hx b n r
    · rw [n] at r; cases r
  have hm : ∀ b u, H b = some u → ¬ Mut (some u) → b ≠ x := fun b u q nm z => by subst z; rw [q] at mu; exact nm mu
  refine ⟨fun b u q n _ _ => k b u (hb b n) q, fun b u q n _ _ => ⟨u.slots, k b u (hb b n) q⟩, fun b u q n _ => by rw [upd_ne (hx b n)]; exact n, fun b u q _ => ?_,
    fun b xs q => by rw [upd_ne (hm b _ q fun z => z)]; exact q, fun b u xs q => by rw [upd_ne (hm b _ q fun z => z)]; exact q, fun b ps q => ⟨#[], by rw [upd_ne (hm b _ q fun z => z), q]; simp⟩⟩
  by_cases hbe : b = e
  · subst hbe; exact heo
  · exact ⟨u, k b u hbe q⟩
end
def trk (h : Heap) (H : Hp) : List Addr := (List.range h.objs.size).filter fun a => (H a).isSome
def hidT (h : Heap) (H : Hp) : Heap := PySem.W.hideAll h (trk h H)
theorem hidT_size (h : Heap) (H : Hp) : (hidT h H).objs.size = h.objs.size := PySem.W.hideAll_size _ _
theorem hidT_get {h : Heap} {H : Hp} {b : Addr} {o : Obj} (e : h.get? b = some o) (n : H b = none) : (hidT h H).get? b = some o :=
  PySem.W.hideAll_get _ e fun hm => by
    have q : (H b).isSome = true := (List.mem_filter.mp hm).2
    rw [n] at q; simp at q
theorem of_hidT {h : Heap} {H : Hp} {b : Addr} {o : Obj} (e : (hidT h H).get? b = some o) : h.get? b = some o ∧ H b = none := by
  have e' : h.get? b = some o := PySem.W.of_hideAll (trk h H) e
  refine ⟨e', ?_⟩
  cases q : H b with
  | none => rfl
  | some x =>
    have hm : b ∈ trk h H := List.mem_filter.mpr ⟨List.mem_range.mpr (Heap.lt_size e'), by simp [q]⟩
    have z : (hidT h H).get? b = none := PySem.W.hideAll_none (trk h H) hm
    rw [z] at e; cases e
end L2
namespace L2
open PySem PySem.Spec PyProof.Rows
structure Mod (K : PySem.W.Frag) (mg : Str → Option Value) (base : Heap) : Prop where
  kin : K.In base
  glob : base.Ns mainGlobals mg
  blt : ∃ mb, base.Ns builtinsNs mb ∧ ∀ x : Str, x ≠ "__name__" → mb x = bootBuiltins x
  nolimit : base.NoLimit
structure Cx where
  prog : Program
  w : World
  K : PySem.W.Frag
  mg : Str → Option Value
  base : Heap
  A : Around
  N : List Str
  s₀ : Shared
  H₀ : Hp
  env : Env
  outer : List Env
  stack : List Env
  ex : List Addr
  fn : Str → Bool
  calm : Bool
  pn : List (Addr × Obj)
  xe : Value → Shared → Prop
def frs (l : List Env) : List Addr := l.filterMap (·.frame)
abbrev Cx.fs (X : Cx) : List Addr := frs X.outer
def Vis (sc : Scope) (x : Str) : Prop := sc.names.lookup x = some .local ∨ sc.names.lookup x = some .cell ∨ sc.names.lookup x = some .free
def Loc (sc : Scope) (x : Str) : Prop := sc.names.lookup x = some .local ∨ sc.names.lookup x = some .cell
def Look (env : Env) (h : Heap) (m : Str → Option Value) (x : Str) (u : Value) : Prop :=
  (env.kindOf x = some .local ∧ m x = some u) ∨ ((env.kindOf x = some .cell ∨ env.kindOf x = some .free) ∧ ∃ c, env.cells.lookup x = some c ∧ h.IsCell c (some u))
structure Cx.Ok (X : Cx) : Prop where
  mod : Mod X.K X.mg X.base
  kind : X.env.scope.kind = .function
  glob : X.env.globals = mainGlobals
  blt : X.env.builtins = builtinsNs
  above : X.s₀.heap.objs.size ≤ X.env.locals
  inj : ∀ x y c, X.env.cells.lookup x = some c → X.env.cells.lookup y = some c → x = y
  has : ∀ x, (X.env.kindOf x = some .cell ∨ X.env.kindOf x = some .free) → ∃ c, X.env.cells.lookup x = some c
  cab : ∀ x c, X.fn x = true → X.env.cells.lookup x = some c → X.s₀.heap.objs.size ≤ c
  hd : X.calm = true → X.A.handled = none
  frames : X.A.frames = some X.stack
  stk : X.stack = X.outer ∨ (X.stack = X.env :: X.outer ∧ X.env.frame = some X.env.locals)
  exf : ∀ b ∈ X.ex, b ≠ X.env.locals ∧ ∀ x c, X.env.cells.lookup x = some c → c ≠ b
  bs : ∀ b o, X.base.get? b = some o → X.s₀.heap.get? b = some o ∧ X.H₀ b = none
  bsz : X.base.objs.size ≤ X.s₀.heap.objs.size
  noex : ∀ b o, X.base.get? b = some o → b ∉ X.ex
  exfs : ∀ b ∈ X.ex, b ∉ X.fs
  funs : X.s₀.heap.FunFrames X.base X.outer
  frf : ∀ b ∈ X.fs, X.H₀ b = none
structure Inv (X : Cx) (pins : List (Addr × Obj)) (σ : List (Option V)) (H : Hp) (s : Shared) : Prop where
  ok : X.Ok
  os : s.os = X.s₀.os
  bare : AllBare s.gens
  base : Un X.fs X.ex X.H₀ H X.s₀.heap s.heap
  loc : ∃ m, s.heap.Ns X.env.locals m ∧ ∀ (i : Nat) (x : Str) (v : V), X.N[i]? = some x → σ[i]? = some (some v) → Vis X.env.scope x → ∃ u, RelV v u ∧ Look X.env s.heap m x u
  cell : ∀ x c, X.env.cells.lookup x = some c → ∃ v, s.heap.IsCell c v
  free : H X.env.locals = none
  freeC : ∀ x c, X.env.cells.lookup x = some c → H c = none
  pin : ∀ p ∈ X.pn ++ pins, s.heap.get? p.1 = some p.2 ∧ H p.1 = none ∧ p.1 ≠ X.env.locals ∧ p.1 ∉ X.fs ∧ ∀ v, p.2.data ≠ .cell v
  hok : HOk X.prog X.w H s.heap
  len : σ.length = X.N.length
section
variable {X : Cx} {pins : List (Addr × Obj)} {σ : List (Option V)} {H H' : Hp} {s : Shared} {h' : Heap}
theorem Cx.Ok.nofr (ok : X.Ok) {b : Addr} {o : Obj} (e : X.base.get? b = some o) : b ∉ X.fs := fun hb => by
  have := (ok.funs.mem hb).1
  rw [e] at this; cases this
theorem Inv.bs (I : Inv X pins σ H s) : ∀ b o, X.base.get? b = some o → s.heap.get? b = some o ∧ H b = none := fun b o e =>
  ⟨I.base.keep b o (I.ok.bs b o e).1 (I.ok.bs b o e).2 (I.ok.nofr e) (I.ok.noex b o e), I.base.free b o (I.ok.bs b o e).1 (I.ok.bs b o e).2 (I.ok.noex b o e)⟩
theorem Inv.bk (I : Inv X pins σ H s) : ∀ b o, X.base.get? b = some o → s.heap.get? b = some o := fun b o e => (I.bs b o e).1
theorem Inv.mod (I : Inv X pins σ H s) : Mod X.K X.mg X.base := I.ok.mod
theorem Inv.kIn (I : Inv X pins σ H s) : X.K.In s.heap := I.ok.mod.kin.keeps I.bk
theorem Inv.lt (I : Inv X pins σ H s) : X.env.locals < s.heap.objs.size := let ⟨_, hn, _⟩ := I.loc; hn.lt
theorem Inv.sz (I : Inv X pins σ H s) : X.s₀.heap.objs.size ≤ s.heap.objs.size := Nat.le_trans I.ok.above (Nat.le_of_lt I.lt)
theorem Inv.nofs (I : Inv X pins σ H s) {a : Addr} (h : s.heap.objs.size ≤ a) : a ∉ X.fs := fun hb => by
  obtain ⟨_, o, ho, _⟩ := I.ok.funs.mem hb
  exact absurd (Nat.lt_of_lt_of_le (Heap.lt_size ho) (Nat.le_trans I.sz h)) (Nat.lt_irrefl _)
theorem Inv.cne (I : Inv X pins σ H s) : ∀ x c, X.env.cells.lookup x = some c → c ≠ X.env.locals := fun x c e z => by
  obtain ⟨v, o, ho, hd⟩ := I.cell x c e
  obtain ⟨m, ⟨o', es, ep, ho', hd', _⟩, _⟩ := I.loc
  rw [z, ho'] at ho; cases ho; rw [hd'] at hd; cases hd
theorem Inv.funs (I : Inv X pins σ H s) : s.heap.FunFrames X.base X.outer := by
  have all : ∀ (l : List Env), (∀ b ∈ frs l, b ∈ X.fs) → X.s₀.heap.FunFrames X.base l → s.heap.FunFrames X.base l := by
    intro l
    induction l with
    | nil => intro _ _; trivial
    | cons env r ih =>
      intro hs hl
      obtain ⟨hk, ⟨L, o, hf, hn, ho, hd⟩, hr⟩ := hl
      have hL : L ∈ X.fs := hs L (by unfold frs; rw [List.filterMap_cons, hf]; exact List.mem_cons_self)
      obtain ⟨sl, e⟩ := I.base.slot L o ho (I.ok.frf L hL) hL fun z => I.ok.exfs L z hL
      exact ⟨hk, ⟨L, _, hf, hn, e, hd⟩, ih (fun b hb => hs b (by unfold frs; rw [List.filterMap_cons, hf]; exact List.mem_cons_of_mem _ hb)) hr⟩
  exact all X.outer (fun _ hb => hb) I.ok.funs
theorem Inv.stack (I : Inv X pins σ H s) : s.heap.FunFrames X.base X.stack := by
  rcases I.ok.stk with e | ⟨e, hf⟩
  · rw [e]; exact I.funs
  · rw [e]
    obtain ⟨m, hn, _⟩ := I.loc
    refine .cons (by rw [I.ok.kind]; decide) hf hn ?_ I.funs
    exact Heap.get?_none_of_le (Nat.le_trans I.ok.bsz I.ok.above)
theorem Inv.stkSub (I : Inv X pins σ H s) : ∀ b ∈ frs X.stack, b ∈ X.env.locals :: X.fs := fun b hb => by
  rcases I.ok.stk with e | ⟨e, hf⟩
  · rw [e] at hb; exact List.mem_cons_of_mem _ hb
  · rw [e] at hb
    unfold frs at hb
    rw [List.filterMap_cons, hf] at hb
    exact hb
theorem Inv.stkFree (I : Inv X pins σ H s) : ∀ b ∈ frs X.stack, H b = none := fun b hb => by
  rcases List.mem_cons.mp (I.stkSub b hb) with e | hb
  · rw [e]; exact I.free
  · obtain ⟨_, o, ho, _⟩ := I.ok.funs.mem hb
    exact I.base.free b o ho (I.ok.frf b hb) fun z => I.ok.exfs b z hb
theorem Inv.step {g' : Array GenState} {t' : Nat} {d' : Drawn} {ch : List Addr} (I : Inv X pins σ H s)
    (hch : ∀ b ∈ ch, (b ∈ X.ex ∨ X.s₀.heap.objs.size ≤ b) ∧ b ≠ X.env.locals ∧ (∀ x c, X.env.cells.lookup x = some c → c ≠ b) ∧ ∀ p ∈ X.pn ++ pins, p.1 ≠ b)
    (keep : ∀ b o, b ≠ X.env.locals → b ∉ X.fs → b ∉ ch → s.heap.get? b = some o → H b = none → h'.get? b = some o)
    (slot : ∀ b o, b ≠ X.env.locals → b ∈ X.fs → b ∉ ch → s.heap.get? b = some o → H b = none → ∃ sl, h'.get? b = some { o with slots := sl }) (free : ∀ b o, b ∉ ch → s.heap.get? b = some o → H b = none → H' b = none)
    (there : ∀ b o, b ∉ ch → s.heap.get? b = some o → ∃ o', h'.get? b = some o')
    (tups : ∀ b xs, H b = some (.tup xs) → H' b = some (.tup xs)) (frzs : ∀ b o u, H b = some (.frz o u) → H' b = some (.frz o u)) (tbls : ∀ b ps, H b = some (.tbl ps) → ∃ more, H' b = some (.tbl (ps ++ more)))
    (ns : ∀ m, s.heap.Ns X.env.locals m → h'.Ns X.env.locals m) (hok : HOk X.prog X.w H' h') (hg : AllBare g') :
    Inv X pins σ H' { s with heap := h', gens := g', drawn := d', toks := t' } := by
  have neL : ∀ b o, X.s₀.heap.get? b = some o → b ≠ X.env.locals := fun b o e => Nat.ne_of_lt (Nat.lt_of_lt_of_le (Heap.lt_size e) I.ok.above)
  have neC : ∀ b o, X.s₀.heap.get? b = some o → b ∉ X.ex → b ∉ ch := fun b o e hx hb => by
    rcases (hch b hb).1 with z | z
    · exact hx z
    · exact absurd (Nat.lt_of_lt_of_le (Heap.lt_size e) z) (Nat.lt_irrefl _)
  have cellK : ∀ x c, X.env.cells.lookup x = some c → ∀ v, s.heap.IsCell c v → h'.IsCell c v := fun x c e v ⟨o, ho, hd⟩ => by
    have nch : c ∉ ch := fun z => (hch c z).2.2.1 x c e rfl
    by_cases hc : c ∈ X.fs
    · obtain ⟨sl, q⟩ := slot c o (I.cne x c e) hc nch ho (I.freeC x c e)
      exact ⟨_, q, hd⟩
    · exact ⟨o, keep c o (I.cne x c e) hc nch ho (I.freeC x c e), hd⟩
  refine ⟨I.ok, I.os, hg, ⟨fun b o e n hb hx => ?_, fun b o e n hb hx => ?_, fun b o e n hx => ?_, fun b o e hx => ?_, fun b xs e => tups b xs (I.base.tups b xs e), fun b o xs e => frzs b o xs (I.base.frzs b o xs e), fun b ps e => ?_⟩, ?_, fun x c e => ?_, ?_, fun x c e => ?_, fun p hp => ?_, hok, I.len⟩
  · exact keep b o (neL b o e) hb (neC b o e hx) (I.base.keep b o e n hb hx) (I.base.free b o e n hx)
  · obtain ⟨sl, e1⟩ := I.base.slot b o e n hb hx
    obtain ⟨sl', e2⟩ := slot b _ (neL b o e) hb (neC b o e hx) e1 (I.base.free b o e n hx)
    exact ⟨sl', e2⟩
  · obtain ⟨o', e1⟩ := I.base.there b o e hx
    exact free b o' (neC b o e hx) e1 (I.base.free b o e n hx)
  · obtain ⟨o', e1⟩ := I.base.there b o e hx
    exact there b o' (neC b o e hx) e1
  · obtain ⟨m1, e1⟩ := I.base.tbls b ps e
    obtain ⟨m2, e2⟩ := tbls b _ e1
    exact ⟨m1 ++ m2, by rw [e2, Array.append_assoc]⟩
  · obtain ⟨m, hn, hl⟩ := I.loc
    refine ⟨m, ns m hn, fun i x v e1 e2 e3 => ?_⟩
    obtain ⟨u, r, l⟩ := hl i x v e1 e2 e3
    refine ⟨u, r, ?_⟩
    rcases l with l | ⟨k, c, e, z⟩
    · exact .inl l
    · exact .inr ⟨k, c, e, cellK x c e _ z⟩
  · obtain ⟨v, z⟩ := I.cell x c e
    exact ⟨v, cellK x c e v z⟩
  · obtain ⟨m, ⟨o, _, _, ho, _⟩, _⟩ := I.loc
    exact free _ o (fun z => (hch _ z).2.1 rfl) ho I.free
  · obtain ⟨v, o, ho, hd⟩ := I.cell x c e
    exact free c o (fun z => (hch c z).2.2.1 x c e rfl) ho (I.freeC x c e)
  · obtain ⟨e, n, ne, nf, d⟩ := I.pin p hp
    have nch : p.1 ∉ ch := fun z => (hch p.1 z).2.2.2 p hp rfl
    exact ⟨keep p.1 p.2 ne nf nch e n, free p.1 p.2 nch e n, ne, nf, d⟩
theorem Inv.un {t' : Nat} (I : Inv X pins σ H s) (u : Un X.fs [] H H' s.heap h') (hok : HOk X.prog X.w H' h') : Inv X pins σ H' { s with heap := h', toks := t' } := by
  obtain ⟨m, ⟨o, es, ep, ho, r⟩, _⟩ := id I.loc
  obtain ⟨sl, hL⟩ := u.any ho I.free (by simp)
  exact I.step (g' := s.gens) (d' := s.drawn) (ch := []) (fun _ z => nomatch z) (fun b o _ hb _ e n => u.keep b o e n hb (by simp)) (fun b o _ hb _ e n => u.slot b o e n hb (by simp)) (fun b o _ e n => u.free b o e n (by simp)) (fun b o _ e => u.there b o e (by simp)) u.tups u.frzs u.tbls (fun m' hm => by
    obtain ⟨o', es', ep', ho', r'⟩ := hm
    rw [ho] at ho'; cases ho'
    exact ⟨_, es', ep', hL, r'⟩) hok I.bare
theorem Inv.call {g' : Array GenState} {t' : Nat} {d' : Drawn} {ch : List Addr} (I : Inv X pins σ H s) (u : Un (frs X.stack) ch H H' s.heap h') (hok : HOk X.prog X.w H' h') (hg : AllBare g')
    (hch : ∀ b ∈ ch, (b ∈ X.ex ∨ X.s₀.heap.objs.size ≤ b) ∧ b ≠ X.env.locals ∧ (∀ x c, X.env.cells.lookup x = some c → c ≠ b) ∧ ∀ p ∈ X.pn ++ pins, p.1 ≠ b) :
    Inv X pins σ H' { s with heap := h', gens := g', drawn := d', toks := t' } := by
  obtain ⟨m, ⟨o, es, ep, ho, r⟩, _⟩ := id I.loc
  obtain ⟨sl, hL⟩ := u.any ho I.free fun z => (hch _ z).2.1 rfl
  exact I.step (ch := ch) hch (fun b o hL hb hc e n => u.keep b o e n (fun z => (List.mem_cons.mp (I.stkSub b z)).elim hL hb) hc) (fun b o _ _ hc e n => u.any e n hc) (fun b o hc e n => u.free b o e n hc) (fun b o hc e => u.there b o e hc) u.tups u.frzs u.tbls (fun m' hm => by
    obtain ⟨o', es', ep', ho', r'⟩ := hm
    rw [ho] at ho'; cases ho'
    exact ⟨_, es', ep', hL, r'⟩) hok hg
theorem Inv.turned {t' : Nat} {it : Addr} (I : Inv X pins σ H s) (k : ∀ b o, b ≠ it → s.heap.get? b = some o → h'.get? b = some o) (hn : H it = none) (hL : it ≠ X.env.locals)
    (h1 : it ∈ X.ex ∨ X.s₀.heap.objs.size ≤ it) (h2 : ∀ x c, X.env.cells.lookup x = some c → c ≠ it) (h3 : ∀ p ∈ X.pn ++ pins, p.1 ≠ it) : Inv X pins σ H { s with heap := h', toks := t' } := by
  have nit : ∀ b u, H b = some u → b ≠ it := fun b u e z => by rw [z, hn] at e; cases e
  refine I.step (g' := s.gens) (d' := s.drawn) (ch := [it]) (fun b hb => ?_) (fun b o _ _ hc e _ => k b o (fun z => hc (by simp [z])) e) (fun b o _ _ hc e _ => ⟨o.slots, k b o (fun z => hc (by simp [z])) e⟩) (fun _ _ _ _ n => n)
    (fun b o hc e => ⟨o, k b o (fun z => hc (by simp [z])) e⟩) (fun _ _ e => e) (fun _ _ _ e => e) (fun b ps e => ⟨#[], by rw [e]; simp⟩) (fun m hm => ?_) (fun b u e => ?_) I.bare
  · have e : b = it := by simpa using hb
    subst e
    exact ⟨h1, hL, h2, h3⟩
  · obtain ⟨o, es, ep, ho, r⟩ := hm
    exact ⟨o, es, ep, k _ o (Ne.symm hL) ho, r⟩
  · refine (I.hok b u e).stay (fun c v hc q => k c v ?_ q) (fun _ q => q) fun _ _ q => q
    rcases hc with z | z
    · rw [z]; exact nit b u e
    · exact nit c _ z
theorem Inv.tok (I : Inv X pins σ H s) (t : Nat) : Inv X pins σ H { s with toks := t } := I.un (h' := s.heap) (t' := t) Un.refl I.hok
theorem Inv.kept {t' : Nat} (I : Inv X pins σ H s) (k : ∀ b u, s.heap.get? b = some u → h'.get? b = some u) : Inv X pins σ H { s with heap := h', toks := t' } := I.un (Un.kept k) (I.hok.kept k)
theorem Inv.laid {a : Addr} {o : HO} {t' : Nat} (I : Inv X pins σ H s) (k : ∀ b u, s.heap.get? b = some u → h'.get? b = some u) (hp : s.heap.objs.size ≤ a) (new : ObjOk X.prog X.w (upd H a o) h' a o) :
    Inv X pins σ (upd H a o) { s with heap := h', toks := t' } := I.un (Un.laid k hp (I.hok.fresh hp)) (I.hok.laid k hp new)
theorem Inv.write {x e : Addr} {o : HO} {t' : Nat} (I : Inv X pins σ H s) (mu : Mut (H x)) (he : e = x ∨ H e = some (.own x)) (k : ∀ b u, b ≠ e → s.heap.get? b = some u → h'.get? b = some u) (heo : ∃ u, h'.get? e = some u)
    (new : ObjOk X.prog X.w (upd H x o) h' x o) : Inv X pins σ (upd H x o) { s with heap := h', toks := t' } := I.un (Un.write mu he k heo) (I.hok.write mu he k heo new)
theorem Inv.weak {σ' : List (Option V)} (I : Inv X pins σ H s) (hl : σ'.length = σ.length) (w : ∀ (i : Nat) v, σ'[i]? = some (some v) → σ[i]? = some (some v)) : Inv X pins σ' H s :=
  ⟨I.ok, I.os, I.bare, I.base, let ⟨m, hn, hl'⟩ := I.loc; ⟨m, hn, fun i x v e1 e2 e3 => hl' i x v e1 (w i v e2) e3⟩, I.cell, I.free, I.freeC, I.pin, I.hok, hl.trans I.len⟩
theorem Inv.pins_of {pins' : List (Addr × Obj)} (I : Inv X pins σ H s) (h : ∀ p ∈ pins', s.heap.get? p.1 = some p.2 ∧ H p.1 = none ∧ p.1 ≠ X.env.locals ∧ p.1 ∉ X.fs ∧ ∀ v, p.2.data ≠ .cell v) : Inv X pins' σ H s :=
  ⟨I.ok, I.os, I.bare, I.base, I.loc, I.cell, I.free, I.freeC, fun p hp => (List.mem_append.mp hp).elim (fun z => I.pin p (List.mem_append_left _ z)) (h p), I.hok, I.len⟩
theorem nodup_ix {N : List Str} (hN : N.Nodup) {i j : Nat} {x : Str} (a : N[i]? = some x) (b : N[j]? = some x) : i = j := by
  obtain ⟨h1, e1⟩ := List.getElem?_eq_some_iff.mp a
  obtain ⟨h2, e2⟩ := List.getElem?_eq_some_iff.mp b
  exact (List.getElem_inj hN).mp (e1.trans e2.symm)
theorem store_ok2 {M : Model} {A : Around} {E : Value → Shared → Prop} {i : Nat} {x : Str} {v : V} {u : Value} {Q : Unit → Shared → Prop} (I : Inv X pins σ H s) (hN : X.N.Nodup) (hi : X.N[i]? = some x) (hx : Loc X.env.scope x) (r : RelV v u)
    (h : ∀ s', Inv X pins (σ.set i (some v)) H s' → (∃ a, Heap.SameBut a s.heap s'.heap ∧ (a = X.env.locals ∨ X.env.cells.lookup x = some a)) → Q () s') (hf : X.fn x = true ∨ X.env.scope.names.lookup x = some .local := by first | exact .inl rfl | exact .inr rfl | assumption) : wpAny M A (storeName X.env x u) Q E s := by
  obtain ⟨m, hn, hl⟩ := id I.loc
  have hcls : (X.env.scope.kind == .class || (X.env.scope.kind == .module && X.env.locals != X.env.globals)) = false := by rw [I.ok.kind]; rfl
  have hiσ : i < σ.length := by rw [I.len]; exact (List.getElem?_eq_some_iff.mp hi).1
  have cne := I.cne
  have tracked : ∀ {a : Addr} {h' : Heap}, (∃ o, s.heap.get? a = some o ∧ H a = none) → Heap.SameBut a s.heap h' → HOk X.prog X.w H h' := fun {a h'} ha hs b ob e => by
    obtain ⟨_, _, hfree⟩ := ha
    refine (I.hok b ob e).stay (fun c w' hc q => (hs.2 c ?_).trans q) (fun _ q => q) fun _ _ q => q
    rintro rfl
    rcases hc with rfl | hc
    · rw [hfree] at e; cases e
    · rw [hfree] at hc; cases hc
  rcases hx with hk | hk
  · refine wpAny_storeName_local hk hn (fun h' hn' hs => ?_) hcls
    obtain ⟨oL, _, _, hoL, _⟩ := id hn
    refine h _ ⟨I.ok, I.os, I.bare, ⟨fun b o e n hb hx => ?_, fun b o e n hb hx => ?_, I.base.free, fun b o e hx => ?_, I.base.tups, I.base.frzs, I.base.tbls⟩, ⟨_, hn', fun j y v' e1 e2 e3 => ?_⟩, fun y c e => ?_, I.free, I.freeC, fun p hp => ?_, tracked ⟨oL, hoL, I.free⟩ hs, by simpa using I.len⟩ ⟨_, hs, .inl rfl⟩
    · exact (hs.2 b (Nat.ne_of_lt (Nat.lt_of_lt_of_le (Heap.lt_size e) I.ok.above))).trans (I.base.keep b o e n hb hx)
    · obtain ⟨sl, e1⟩ := I.base.slot b o e n hb hx
      exact ⟨sl, (hs.2 b (Nat.ne_of_lt (Nat.lt_of_lt_of_le (Heap.lt_size e) I.ok.above))).trans e1⟩
    · obtain ⟨o', e1⟩ := I.base.there b o e hx
      exact ⟨o', (hs.2 b (Nat.ne_of_lt (Nat.lt_of_lt_of_le (Heap.lt_size e) I.ok.above))).trans e1⟩
    · by_cases hj : j = i
      · subst hj
        rw [hi] at e1; cases e1
        rw [List.getElem?_set_self hiσ] at e2
        cases e2
        exact ⟨u, r, .inl ⟨hk, by simp⟩⟩
      · rw [List.getElem?_set_ne (Ne.symm hj)] at e2
        obtain ⟨u', r', q⟩ := hl j y v' e1 e2 e3
        refine ⟨u', r', ?_⟩
        rcases q with ⟨k, e⟩ | ⟨k, c, e, z⟩
        · refine .inl ⟨k, ?_⟩
          have : y ≠ x := fun e => hj (nodup_ix hN e1 (e ▸ hi))
          simp [this, e]
        · exact .inr ⟨k, c, e, z.sameBut hs (cne y c e)⟩
    · obtain ⟨w', z⟩ := I.cell y c e
      exact ⟨w', z.sameBut hs (cne y c e)⟩
    · obtain ⟨e, n, ne, nf, d⟩ := I.pin p hp
      exact ⟨(hs.2 p.1 ne).trans e, n, ne, nf, d⟩
  · have hfn : X.fn x = true := by
      rcases hf with z | z
      · exact z
      · rw [z] at hk; cases hk
    obtain ⟨c, hc⟩ := I.ok.has x (.inl hk)
    obtain ⟨w', z⟩ := I.cell x c hc
    refine wpAny_storeName_cell I.ok.kind hk hc z (fun h' hc' hs => ?_)
    obtain ⟨oc, hoc, hocd⟩ := id z
    refine h { s with heap := h' } ⟨I.ok, I.os, I.bare, ⟨fun b o e n hb hx => ?_, fun b o e n hb hx => ?_, I.base.free, fun b o e hx => ?_, I.base.tups, I.base.frzs, I.base.tbls⟩, ⟨m, hn.sameBut hs (Ne.symm (cne x c hc)), fun j y v' e1 e2 e3 => ?_⟩, fun y c' e => ?_, I.free, I.freeC, fun p hp => ?_, tracked ⟨oc, hoc, I.freeC x c hc⟩ hs, by simpa using I.len⟩ ⟨c, hs, .inr hc⟩
    · exact (hs.2 b (Nat.ne_of_lt (Nat.lt_of_lt_of_le (Heap.lt_size e) (I.ok.cab x c hfn hc)))).trans (I.base.keep b o e n hb hx)
    · obtain ⟨sl, e1⟩ := I.base.slot b o e n hb hx
      exact ⟨sl, (hs.2 b (Nat.ne_of_lt (Nat.lt_of_lt_of_le (Heap.lt_size e) (I.ok.cab x c hfn hc)))).trans e1⟩
    · obtain ⟨o', e1⟩ := I.base.there b o e hx
      exact ⟨o', (hs.2 b (Nat.ne_of_lt (Nat.lt_of_lt_of_le (Heap.lt_size e) (I.ok.cab x c hfn hc)))).trans e1⟩
    · by_cases hj : j = i
      · subst hj
        rw [hi] at e1; cases e1
        rw [List.getElem?_set_self hiσ] at e2
        cases e2
        exact ⟨u, r, .inr ⟨.inl hk, c, hc, hc'⟩⟩
      · rw [List.getElem?_set_ne (Ne.symm hj)] at e2
        obtain ⟨u', r', q⟩ := hl j y v' e1 e2 e3
        refine ⟨u', r', ?_⟩
        rcases q with q | ⟨k, c', e, z'⟩
        · exact .inl q
        · refine .inr ⟨k, c', e, z'.sameBut hs ?_⟩
          rintro rfl
          exact hj (nodup_ix hN e1 (I.ok.inj _ _ _ e hc ▸ hi))
    · by_cases hcc : c' = c
      · subst hcc; exact ⟨_, hc'⟩
      · obtain ⟨w2, z2⟩ := I.cell y c' e
        exact ⟨w2, z2.sameBut hs hcc⟩
    · obtain ⟨e, n, ne, nf, d⟩ := I.pin p hp
      refine ⟨(hs.2 p.1 ?_).trans e, n, ne, nf, d⟩
      intro q
      rw [q, hoc] at e
      have q' : oc = p.2 := Option.some.inj e
      exact d w' (by rw [← q']; exact hocd)
theorem store_ok {M : Model} {A : Around} {E : Value → Shared → Prop} {i : Nat} {x : Str} {v : V} {u : Value} {Q : Unit → Shared → Prop} (I : Inv X pins σ H s) (hN : X.N.Nodup) (hi : X.N[i]? = some x) (hx : Loc X.env.scope x) (r : RelV v u)
    (h : ∀ s', Inv X pins (σ.set i (some v)) H s' → Q () s') (hf : X.fn x = true ∨ X.env.scope.names.lookup x = some .local := by first | exact .inl rfl | exact .inr rfl | assumption) : wpAny M A (storeName X.env x u) Q E s :=
  store_ok2 I hN hi hx r (fun s' I' _ => h s' I') hf
theorem Inv.call' {s' : Shared} {ch : List Addr} (I : Inv X pins σ H s) (ho : s'.os = s.os) (u : Un (frs X.stack) ch H H' s.heap s'.heap) (hok : HOk X.prog X.w H' s'.heap) (hg : AllBare s'.gens)
    (hch : ∀ b ∈ ch, (b ∈ X.ex ∨ X.s₀.heap.objs.size ≤ b) ∧ b ≠ X.env.locals ∧ (∀ x c, X.env.cells.lookup x = some c → c ≠ b) ∧ ∀ p ∈ X.pn ++ pins, p.1 ≠ b) : Inv X pins σ H' s' := by
  obtain ⟨h', g', d', t', o'⟩ := s'
  have e : o' = s.os := ho
  subst e
  exact I.call (g' := g') (t' := t') (d' := d') u hok hg hch
end
abbrev XK := Value → Option Addr → Hp → Prop
abbrev St := List (Option V)
abbrev VK := V → Hp → Prop
abbrev TE := St → Hp → VK → Prop
abbrev TT := St → Hp → (Bool → Hp → Prop) → Prop
abbrev TA := St → Hp → (List V → Hp → Prop) → Prop
structure Ends where
  nx : St → Hp → Prop
  rt : VK
  bk : St → Hp → Prop := fun _ _ => False
  ct : St → Hp → Prop := fun _ _ => False
abbrev TS := Ends → St → Hp → Prop
def EP (X : Cx) (pins : List (Addr × Obj)) (σ : St) (Q : VK) (u : Value) (s' : Shared) : Prop := ∃ v H', Inv X pins σ H' s' ∧ RelV v u ∧ Q v H'
def TP (X : Cx) (pins : List (Addr × Obj)) (σ : St) (Q : Bool → Hp → Prop) (b : Bool) (s' : Shared) : Prop := ∃ H', Inv X pins σ H' s' ∧ Q b H'
def AP (X : Cx) (pins : List (Addr × Obj)) (σ : St) (Q : List V → Hp → Prop) (us : List Value) (s' : Shared) : Prop := ∃ vs H', Inv X pins σ H' s' ∧ Vals vs us ∧ Q vs H'
def SP (X : Cx) (pins : List (Addr × Obj)) (D : Ends) (f : Flow) (s' : Shared) : Prop :=
  match f with
  | .next => ∃ σ' H', Inv X pins σ' H' s' ∧ D.nx σ' H'
  | .brk => ∃ σ' H', Inv X pins σ' H' s' ∧ D.bk σ' H'
  | .cont => ∃ σ' H', Inv X pins σ' H' s' ∧ D.ct σ' H'
  | .ret u => ∃ v σ' H', Inv X pins σ' H' s' ∧ RelV v u ∧ D.rt v H'
def PE (X : Cx) (e : Expr) (t : TE) : Prop :=
  ∀ (pins : List (Addr × Obj)) (s : Shared) (σ : St) (H : Hp) (Q : VK), Inv X pins σ H s → t σ H Q → wpAny (model X.prog X.w) X.A (eval e X.env) (EP X pins σ Q) X.xe s
def PT (X : Cx) (e : Expr) (t : TT) : Prop :=
  ∀ (pins : List (Addr × Obj)) (s : Shared) (σ : St) (H : Hp) (Q : Bool → Hp → Prop), Inv X pins σ H s → t σ H Q → wpAny (model X.prog X.w) X.A (isTrue e X.env (eval e X.env)) (TP X pins σ Q) X.xe s
def PW (X : Cx) (e : Expr) (t : TT) : Prop :=
  ∀ (whole : Sem Value) (pins : List (Addr × Obj)) (s : Shared) (σ : St) (H : Hp) (Q : Bool → Hp → Prop), Inv X pins σ H s → t σ H Q → wpAny (model X.prog X.w) X.A (isTrue e X.env whole) (TP X pins σ Q) X.xe s
theorem PW.pt {X : Cx} {e : Expr} {t : TT} (h : PW X e t) : PT X e t := h _
def PA (X : Cx) (es : List Expr) (t : TA) : Prop :=
  ∀ (pos : Pos) (pins : List (Addr × Obj)) (s : Shared) (σ : St) (H : Hp) (Q : List V → Hp → Prop), Inv X pins σ H s → t σ H Q → wpAny (model X.prog X.w) X.A (spliced (backTo pos (starEach es X.env))) (AP X pins σ Q) X.xe s
def PS (X : Cx) (st : Stmt) (t : TS) : Prop :=
  ∀ (pins : List (Addr × Obj)) (s : Shared) (σ : St) (H : Hp) (D : Ends), Inv X pins σ H s → t D σ H → wpAny (model X.prog X.w) X.A (exec st X.env) (SP X pins D) X.xe s
def PSs (X : Cx) (st : List Stmt) (t : TS) : Prop :=
  ∀ (pins : List (Addr × Obj)) (s : Shared) (σ : St) (H : Hp) (D : Ends), Inv X pins σ H s → t D σ H → wpAny (model X.prog X.w) X.A (execs st X.env) (SP X pins D) X.xe s
theorem thn {α : Type} {t : Sem α} {Q Q' : α → Shared → Prop} {M : Model} {A : Around} {E : Value → Shared → Prop} {s : Shared} (h : wpAny M A t Q E s) (hQ : ∀ a s, Q a s → Q' a s) : wpAny M A t Q' E s := wpAny_mono h hQ fun _ _ x => x
end L2
namespace L2
open PySem PySem.Spec PyProof.Rows
section
variable {X : Cx}
def tVar (i : Nat) : TE := fun σ H Q => ∃ v, σ[i]? = some (some v) ∧ Q v H
def tC (v : V) : TE := fun _ H Q => Q v H
theorem pe_var {i : Nat} {x : Str} {pos : Pos} (hN : X.N[i]? = some x) (hv : Vis X.env.scope x) (hd : (x == ("__debug__" : Str)) = false := by decide) (hcd : (x == ("__classdict__" : Str)) = false := by decide) : PE X (.Name x pos) (tVar i) := by
  intro pins s σ H Q I h
  obtain ⟨v, e, h⟩ := h
  obtain ⟨m, hn, hl⟩ := I.loc
  obtain ⟨u, r, l⟩ := hl i x v hN e hv
  have fin : EP X pins σ Q u s := ⟨v, H, I, r, h⟩
  rcases l with ⟨hk, hm⟩ | ⟨hk, c, hc, hcell⟩
  · exact wpAny_Name (wpAny_loadName_local I.ok.kind hk hn hm fin) hd
  · rcases hk with hk | hk
    · exact wpAny_Name (wpAny_loadName_cell I.ok.kind hk hc hcell fin) hd
    · exact wpAny_Name (wpAny_loadName_free I.ok.kind hk hc hcell fin hcd) hd
theorem pe_int {i j pos} : PE X (.Constant (.int i) j pos) (tC (.int i)) := fun _ _ _ H _ I h => wpAny_Constant_int ⟨.int i, H, I.tok _, ⟨_, rfl⟩, h⟩
theorem pe_bl {b j pos} : PE X (.Constant (.bool b) j pos) (tC (.bl b)) := fun _ _ _ H _ I h => Constant_bool ⟨.bl b, H, I, rfl, h⟩
theorem pe_str {x j pos} : PE X (.Constant (.str x) j pos) (tC (.str x)) := fun _ _ _ H _ I h => Calls.Constant_str ⟨.str x, H, I.tok _, ⟨_, rfl⟩, h⟩
def Gl (X : Cx) (x : Str) : Prop := X.env.kindOf x = some .globalImplicit
theorem ld_glob {E : Value → Shared → Prop} {pins : List (Addr × Obj)} {s : Shared} {σ : St} {H : Hp} {x : Str} {u : Value} {pos : Pos} {Q : Value → Shared → Prop} (I : Inv X pins σ H s) (hg : Gl X x) (hm : X.mg x = some u) (h : Q u s)
    (hd : (x == ("__debug__" : Str)) = false := by decide) : wpAny (model X.prog X.w) X.A (eval (.Name x pos) X.env) Q E s :=
  Calls.Name_function_global I.ok.kind hg (Calls.loadGlobal_global (by rw [I.ok.glob]; exact I.mod.glob.keeps I.bk) hm h) hd
theorem ld_blt {E : Value → Shared → Prop} {pins : List (Addr × Obj)} {s : Shared} {σ : St} {H : Hp} {x : Str} {u : Value} {pos : Pos} {Q : Value → Shared → Prop} (I : Inv X pins σ H s) (hg : Gl X x) (hm : X.mg x = none) (hv : bootBuiltins x = some u) (h : Q u s)
    (hn : x ≠ "__name__" := by decide) (hd : (x == ("__debug__" : Str)) = false := by decide) : wpAny (model X.prog X.w) X.A (eval (.Name x pos) X.env) Q E s := by
  obtain ⟨mb, h1, h2⟩ := I.mod.blt
  exact Calls.Name_function_global I.ok.kind hg (Calls.loadGlobal_builtin (by rw [I.ok.glob]; exact I.mod.glob.keeps I.bk) hm (by rw [I.ok.blt]; exact h1.keeps I.bk) ((h2 x hn).trans hv) h) hd
theorem pe_bltn {x : Str} {v : V} {u : Value} {pos : Pos} (hg : Gl X x) (hm : X.mg x = none) (hv : bootBuiltins x = some u) (r : RelV v u) (hn : x ≠ "__name__" := by decide) (hd : (x == ("__debug__" : Str)) = false := by decide) : PE X (.Name x pos) (tC v) :=
  fun _ _ _ H _ I h => ld_blt I hg hm hv ⟨v, H, I, r, h⟩ hn hd
variable {a b : Expr} {ta tb : TE} {pos : Pos}
def PC (X : Cx) (op : CmpOp) (a b : Expr) (t : TE) : Prop :=
  ∀ (pins : List (Addr × Obj)) (s : Shared) (σ : St) (H : Hp) (Q : VK), Inv X pins σ H s → t σ H Q →
    wpAny (model X.prog X.w) X.A (eval a X.env) (fun v s₁ => wpAny (model X.prog X.w) X.A (eval b X.env) (fun u s₂ => wpAny (model X.prog X.w) X.A (compareOp op v u) (EP X pins σ Q) X.xe s₂) X.xe s₁) X.xe s
def tB (t : TE) : TT := fun σ H Q => t σ H fun x H1 => ∃ c, x = .bl c ∧ Q c H1
theorem pt_cmp {op : CmpOp} {t : TE} (h : PC X op a b t) (h1 : behindInMarks op b = false := by first | exact nobehind _ (by decide) (by decide) | rfl) : PT X (.Compare a [op] [b] pos) (tB t) := by
  intro pins s σ H Q I hw
  refine wpAny_isTrue_Compare1 (thn (h pins s σ H _ I hw) fun v s1 h1 => thn h1 fun u s2 h2 => thn h2 fun c s3 ⟨x, H1, I1, r1, q1⟩ => ?_) h1
  obtain ⟨d, rfl, q⟩ := q1
  cases r1
  exact wpAny_truthy_bool ⟨H1, I1, q⟩
theorem pt_val {e : Expr} {t : TE} (h : PE X e t) (he : ∀ whole, isTrue e X.env whole = (do let v ← whole; standAt e.pos; holding [v] (truthy v)) := by intro _; rfl) : PT X e (tB t) := by
  intro pins s σ H Q I hw
  refine isTrue_plain (thn (h pins s σ H _ I hw) fun v s1 ⟨x, H1, I1, r1, q1⟩ => ?_) (he _)
  obtain ⟨d, rfl, q⟩ := q1
  cases r1
  exact wpAny_truthy_bool ⟨H1, I1, q⟩
variable {tA tB' : TT} {rest : List Expr}
def tAnd (t u : TT) : TT := fun σ H Q => t σ H fun c H1 => if c = true then u σ H1 Q else Q false H1
def tOr (t u : TT) : TT := fun σ H Q => t σ H fun c H1 => if c = true then Q true H1 else u σ H1 Q
def tNot (t : TT) : TT := fun σ H Q => t σ H fun c H1 => Q (!c) H1
theorem pw_and1 (ha : PT X a tA) : PW X (.BoolOp .And [a] pos) tA := by
  intro wh pins s σ H Q I h
  refine isTrue_and (thn (ha pins s σ H Q I h) fun c s1 e => ?_)
  cases c with
  | true => exact isTrue_and_nil e
  | false => exact e
theorem pw_or1 (ha : PT X a tA) : PW X (.BoolOp .Or [a] pos) tA := by
  intro wh pins s σ H Q I h
  refine isTrue_or (thn (ha pins s σ H Q I h) fun c s1 e => ?_)
  cases c with
  | false => exact isTrue_or_nil e
  | true => exact e
theorem pw_and (ha : PT X a tA) (hb : PW X (.BoolOp .And (b :: rest) pos) tB') : PW X (.BoolOp .And (a :: b :: rest) pos) (tAnd tA tB') := by
  intro wh pins s σ H Q I h
  refine isTrue_and (thn (ha pins s σ H _ I h) fun c s1 ⟨H1, I1, q1⟩ => ?_)
  cases c with
  | true => exact hb wh pins s1 σ H1 Q I1 q1
  | false => exact ⟨H1, I1, q1⟩
theorem pw_or (ha : PT X a tA) (hb : PW X (.BoolOp .Or (b :: rest) pos) tB') : PW X (.BoolOp .Or (a :: b :: rest) pos) (tOr tA tB') := by
  intro wh pins s σ H Q I h
  refine isTrue_or (thn (ha pins s σ H _ I h) fun c s1 ⟨H1, I1, q1⟩ => ?_)
  cases c with
  | true => exact ⟨H1, I1, q1⟩
  | false => exact hb wh pins s1 σ H1 Q I1 q1
theorem pt_not (ha : PT X a tA) : PT X (.UnaryOp .Not a pos) (tNot tA) := by
  intro pins s σ H Q I h
  exact isTrue_not (ha pins s σ H (fun c H1 => Q (!c) H1) I h)
def tAndV (ta tb : TE) : TE := fun σ H Q => ta σ H fun x H1 => ∃ c, x = .bl c ∧ if c = true then tb σ H1 Q else Q (.bl false) H1
def tOrV (ta tb : TE) : TE := fun σ H Q => ta σ H fun x H1 => ∃ c, x = .bl c ∧ if c = true then Q (.bl true) H1 else tb σ H1 Q
def tNotV (ta : TE) : TE := fun σ H Q => ta σ H fun x H1 => ∃ c, x = .bl c ∧ Q (.bl (!c)) H1
theorem pe_one {op} {t : TE} (h : PE X a t) : PE X (.BoolOp op [a] pos) t := fun pins s σ H Q I hw => BoolOp_one (h pins s σ H Q I hw)
theorem pe_and (ha : PE X a ta) (hb : PE X (.BoolOp .And (b :: rest) pos) tb) : PE X (.BoolOp .And (a :: b :: rest) pos) (tAndV ta tb) := by
  intro pins s σ H Q I h
  refine BoolOp_and (thn (ha pins s σ H _ I h) fun v s1 ⟨x, H1, I1, r1, q1⟩ => ?_)
  obtain ⟨c, rfl, q1⟩ := q1
  cases r1
  refine wpAny_truthy_bool ?_
  cases c with
  | true => exact hb pins s1 σ H1 Q I1 q1
  | false => exact ⟨.bl false, H1, I1, rfl, q1⟩
theorem pe_or (ha : PE X a ta) (hb : PE X (.BoolOp .Or (b :: rest) pos) tb) : PE X (.BoolOp .Or (a :: b :: rest) pos) (tOrV ta tb) := by
  intro pins s σ H Q I h
  refine BoolOp_or (thn (ha pins s σ H _ I h) fun v s1 ⟨x, H1, I1, r1, q1⟩ => ?_)
  obtain ⟨c, rfl, q1⟩ := q1
  cases r1
  refine wpAny_truthy_bool ?_
  cases c with
  | false => exact hb pins s1 σ H1 Q I1 q1
  | true => exact ⟨.bl true, H1, I1, rfl, q1⟩
theorem pe_not (ha : PE X a ta) : PE X (.UnaryOp .Not a pos) (tNotV ta) := by
  intro pins s σ H Q I h
  refine UnaryOp_ (thn (ha pins s σ H _ I h) fun v s1 ⟨x, H1, I1, r1, q1⟩ => ?_)
  obtain ⟨c, rfl, q1⟩ := q1
  cases r1
  exact not_of (wpAny_truthy_bool ⟨.bl (!c), H1, I1, rfl, q1⟩)
end
end L2
namespace L2
open PySem PySem.Spec PyProof.Rows
def SqL (K : PySem.W.Frag) (H : Hp) (a : Addr) (xs : List V) : Prop :=
  Rd H a (.lst xs) ∨
    ∃ (o : Obj) (its : Array Value) (n : Nat), K.lookup a = some o ∧ o.cls = .type "list" ∧ o.dict = none ∧ o.data = .seq its n ∧ its.size ≤ sizeLine ∧ Vals xs its.toList
def SqT (K : PySem.W.Frag) (H : Hp) (a : Addr) (xs : List V) : Prop :=
  Rd H a (.tup xs) ∨
    ∃ (o : Obj) (its : Array Value) (n : Nat), K.lookup a = some o ∧ o.cls = .type "tuple" ∧ o.data = .seq its n ∧ its.size ≤ sizeLine ∧ Vals xs its.toList
def absV : Value → Option V
  | .none => some .non
  | .bool b => some (.bl b)
  | .int i _ => some (.int i)
  | .str x _ => some (.str x)
  | .bytes b _ => some (.byt b)
  | .float b _ => some (.flt b)
  | .ref a => some (.ref a)
  | .type n => some (.ty n)
  | _ => none
theorem RelV.abs {x : V} {u : Value} (r : RelV x u) : absV u = some x := by
  cases x with
  | non => cases r; rfl
  | bl _ => cases r; rfl
  | int _ => obtain ⟨t, rfl⟩ := r; rfl
  | str _ => obtain ⟨t, rfl⟩ := r; rfl
  | byt _ => obtain ⟨t, rfl⟩ := r; rfl
  | flt _ => obtain ⟨t, rfl⟩ := r; rfl
  | ref _ => cases r; rfl
  | ty _ => cases r; rfl
theorem RelV.inj {x y : V} {u : Value} (r : RelV x u) (q : RelV y u) : x = y := Option.some.inj (r.abs.symm.trans q.abs)
theorem Vals.inj : ∀ {xs ys : List V} {us : List Value}, Vals xs us → Vals ys us → xs = ys
  | _, _, _, .nil, .nil => rfl
  | _, _, _, .cons r t, .cons r' t' => by rw [r.inj r', Vals.inj t t']
section
variable {X : Cx} {pins : List (Addr × Obj)} {σ : St} {H : Hp} {s : Shared} {a : Addr} {xs ys : List V}
theorem Inv.list (I : Inv X pins σ H s) (h : SqL X.K H a xs) : ∃ its : List Value, Vals xs its ∧ PlainL s.heap a its.toArray ∧ xs.length ≤ sizeLine := by
  rcases h with h | ⟨o, its, n, hk, hc, hd, hs, hz, r⟩
  · obtain ⟨z, its, n, r, e⟩ := h.ok I.hok
    exact ⟨its, r, ⟨_, n, e, rfl, rfl, rfl⟩, z⟩
  · refine ⟨its.toList, r, ⟨o, n, I.kIn a o hk, hc, hd, by simpa using hs⟩, ?_⟩
    have e := r.length
    simp only [Array.length_toList] at e
    omega
theorem Inv.tuple (I : Inv X pins σ H s) (h : SqT X.K H a xs) : ∃ its : List Value, Vals xs its ∧ IsTup s.heap a its.toArray ∧ xs.length ≤ sizeLine := by
  rcases h with h | ⟨o, its, n, hk, hc, hs, hz, r⟩
  · obtain ⟨z, its, r, p⟩ := h.ok I.hok
    exact ⟨its, r, p, z⟩
  · refine ⟨its.toList, r, ⟨o, I.kIn a o hk, hc, n, by simpa using hs⟩, ?_⟩
    have e := r.length
    simp only [Array.length_toList] at e
    omega
theorem Inv.list_inj (I : Inv X pins σ H s) (h : SqL X.K H a xs) (h' : SqL X.K H a ys) : xs = ys := by
  obtain ⟨its, r, ⟨o, n, e, _, _, d⟩, _⟩ := I.list h
  obtain ⟨its', r', ⟨o', n', e', _, _, d'⟩, _⟩ := I.list h'
  rw [e] at e'; cases e'
  rw [d] at d'
  injection d' with d1 _
  have : its = its' := by simpa using congrArg Array.toList d1
  subst this
  exact r.inj r'
theorem Inv.tuple_inj (I : Inv X pins σ H s) (h : SqT X.K H a xs) (h' : SqT X.K H a ys) : xs = ys := by
  obtain ⟨its, r, ⟨o, e, _, n, d⟩, _⟩ := I.tuple h
  obtain ⟨its', r', ⟨o', e', _, n', d'⟩, _⟩ := I.tuple h'
  rw [e] at e'; cases e'
  rw [d] at d'
  injection d' with d1 _
  have : its = its' := by simpa using congrArg Array.toList d1
  subst this
  exact r.inj r'
end
abbrev Cx.wish (X : Cx) (E : Value → Shared → Prop) : Cx := { X with xe := E }
abbrev Cx.nox (X : Cx) : Cx := X.wish fun _ _ => False
theorem Cx.Ok.wish {X : Cx} (ok : X.Ok) (E : Value → Shared → Prop) : (X.wish E).Ok :=
  ⟨ok.mod, ok.kind, ok.glob, ok.blt, ok.above, ok.inj, ok.has, ok.cab, ok.hd, ok.frames, ok.stk, ok.exf, ok.bs, ok.bsz, ok.noex, ok.exfs, ok.funs, ok.frf⟩
theorem Cx.Ok.unwish {X : Cx} {E : Value → Shared → Prop} (ok : (X.wish E).Ok) : X.Ok :=
  ⟨ok.mod, ok.kind, ok.glob, ok.blt, ok.above, ok.inj, ok.has, ok.cab, ok.hd, ok.frames, ok.stk, ok.exf, ok.bs, ok.bsz, ok.noex, ok.exfs, ok.funs, ok.frf⟩
section
variable {X : Cx} {pins : List (Addr × Obj)} {σ : St} {H : Hp} {s : Shared} {E : Value → Shared → Prop}
theorem Inv.wish (I : Inv X pins σ H s) (E : Value → Shared → Prop) : Inv (X.wish E) pins σ H s := ⟨I.ok.wish E, I.os, I.bare, I.base, I.loc, I.cell, I.free, I.freeC, I.pin, I.hok, I.len⟩
theorem Inv.unwish (I : Inv (X.wish E) pins σ H s) : Inv X pins σ H s := ⟨I.ok.unwish, I.os, I.bare, I.base, I.loc, I.cell, I.free, I.freeC, I.pin, I.hok, I.len⟩
theorem SP.unwish {D : Ends} {f : Flow} {s' : Shared} (h : SP (X.wish E) pins D f s') : SP X pins D f s' := by
  cases f with
  | next => obtain ⟨σ', H', I, q⟩ := h; exact ⟨σ', H', I.unwish, q⟩
  | brk => obtain ⟨σ', H', I, q⟩ := h; exact ⟨σ', H', I.unwish, q⟩
  | cont => obtain ⟨σ', H', I, q⟩ := h; exact ⟨σ', H', I.unwish, q⟩
  | ret u => obtain ⟨v, σ', H', I, r, q⟩ := h; exact ⟨v, σ', H', I.unwish, r, q⟩
theorem PSs.nox {st : List Stmt} {t : TS} (h : PSs X.nox st t) : PSs X st t := fun pins s σ H D I hw =>
  wpAny_mono (h pins s σ H D (I.wish _) hw) (fun _ _ q => q.unwish) fun _ _ z => False.elim z
end
section
variable {X : Cx} {st : Stmt} {rest : List Stmt} {t u : TS} {e : Expr} {te : TE} {pos : Pos}
def tNext : TS := fun D σ H => D.nx σ H
def tSeq (t u : TS) : TS := fun D σ H => t { D with nx := u D } σ H
theorem pss_nil : PSs X [] tNext := fun _ _ σ H _ I h => wpAny_execs_nil ⟨σ, H, I, h⟩
theorem pss_cons (h1 : PS X st t) (h2 : PSs X rest u) : PSs X (st :: rest) (tSeq t u) := by
  intro pins s σ H D I h
  refine wpAny_execs_cons (thn (h1 pins s σ H { D with nx := u D } I h) fun f s1 q => ?_)
  cases f with
  | next =>
    obtain ⟨σ', H', I', q⟩ := q
    exact h2 pins s1 σ' H' D I' q
  | ret v => exact q
  | brk => exact q
  | cont => exact q
theorem pss_one (h1 : PS X st t) : PSs X [st] t := by
  intro pins s σ H D I h
  refine wpAny_execs_cons (thn (h1 pins s σ H D I h) fun f s1 q => ?_)
  cases f with
  | next => exact wpAny_execs_nil q
  | ret v => exact q
  | brk => exact q
  | cont => exact q
def tCont : TS := fun D σ H => D.ct σ H
theorem ps_continue : PS X (.Continue pos) tCont := fun _ _ σ H _ I h => wpAny_Continue ⟨σ, H, I, h⟩
theorem Inv.quiet {pins : List (Addr × Obj)} {σ : St} {H : Hp} {s : Shared} (I : Inv X pins σ H s) : interactive X.env = false := by simp [interactive, I.ok.kind]
def tDrop (te : TE) : TS := fun D σ H => te σ H fun _ H1 => D.nx σ H1
theorem ps_expr (he : PE X e te) (hs : swapsWith e none pos.line X.env = pure false := by rfl) : PS X (.Expr e pos) (tDrop te) := by
  intro pins s σ H D I h
  exact wpAny_Expr_any (thn (he pins s σ H _ I h) fun v s1 ⟨x, H1, I1, r1, q1⟩ => ⟨σ, H1, I1, q1⟩) I.quiet hs
def tRet (te : TE) : TS := fun D σ H => te σ H D.rt
theorem ps_ret (he : PE X e te) : PS X (.Return (some e) pos) (tRet te) := by
  intro pins s σ H D I h
  exact wpAny_Return_some (thn (he pins s σ H _ I h) fun v s1 ⟨x, H1, I1, r1, q1⟩ => ⟨x, σ, H1, I1, r1, q1⟩)
def tIfS (c : TT) (t u : TS) : TS := fun D σ H => c σ H fun b H1 => if b = true then t D σ H1 else u D σ H1
theorem ps_if {c : Expr} {a b : List Stmt} {tc : TT} (hc : PT X c tc) (ha : PSs X a t) (hb : PSs X b u) : PS X (.If c a b pos) (tIfS tc t u) := by
  intro pins s σ H D I h
  refine wpAny_If (thn (hc pins s σ H _ I h) fun d s1 ⟨H1, I1, q1⟩ => ?_)
  cases d with
  | true => exact ha pins s1 σ H1 D I1 q1
  | false => exact hb pins s1 σ H1 D I1 q1
end
abbrev TG := V → St → Hp → (St → Hp → Prop) → Prop
abbrev TGs := List V → St → Hp → (St → Hp → Prop) → Prop
def PG (X : Cx) (target : Expr) (t : TG) : Prop :=
  ∀ (pins : List (Addr × Obj)) (s : Shared) (σ : St) (H : Hp) (v : V) (u : Value) (Q : St → Hp → Prop), Inv X pins σ H s → RelV v u → t v σ H Q →
    wpAny (model X.prog X.w) X.A (assign target X.env u) (fun _ s' => ∃ σ' H', Inv X pins σ' H' s' ∧ Q σ' H') X.xe s
def PGs (X : Cx) (ts : List Expr) (t : TGs) : Prop :=
  ∀ (pins : List (Addr × Obj)) (s : Shared) (σ : St) (H : Hp) (vs : List V) (us : List Value) (Q : St → Hp → Prop), Inv X pins σ H s → Vals vs us → t vs σ H Q →
    wpAny (model X.prog X.w) X.A (assignInOrder ((assignEach ts X.env).map (·.2)) us) (fun _ s' => ∃ σ' H', Inv X pins σ' H' s' ∧ Q σ' H') X.xe s
section
variable {X : Cx} {pos : Pos}
def gName (i : Nat) : TG := fun v σ H Q => Q (σ.set i (some v)) H
theorem pg_name {i : Nat} {x : Str} (hN : X.N.Nodup) (hi : X.N[i]? = some x) (hx : Loc X.env.scope x) (hf : X.fn x = true ∨ X.env.scope.names.lookup x = some .local := by first | exact .inl rfl | exact .inr rfl | assumption) : PG X (.Name x pos) (gName i) := by
  intro pins s σ H v u Q I r h
  exact wpAny_assign_Name (store_ok I hN hi hx r (fun s' I' => ⟨_, H, I', h⟩) hf)
def gNil : TGs := fun vs σ H Q => vs = [] ∧ Q σ H
def gCons (t : TG) (u : TGs) : TGs := fun vs σ H Q => ∃ v r, vs = v :: r ∧ t v σ H fun σ' H' => u r σ' H' Q
theorem pgs_nil : PGs X [] gNil := by
  intro pins s σ H vs us Q I r h
  obtain ⟨e, h⟩ := h
  subst e
  cases r
  exact assignInOrder_nil ⟨σ, H, I, h⟩
theorem pgs_cons {e : Expr} {es : List Expr} {t : TG} {u : TGs} (h1 : PG X e t) (h2 : PGs X es u)
    (hs : (assignEach (e :: es) X.env).map (·.2) = assign e X.env :: (assignEach es X.env).map (·.2) := by rfl) : PGs X (e :: es) (gCons t u) := by
  intro pins s σ H vs us Q I r h
  obtain ⟨v, vr, e1, h⟩ := h
  subst e1
  cases r with
  | cons r rr =>
    rw [hs]
    refine assignInOrder_cons (thn (h1 pins s σ H _ _ _ I r h) fun _ s1 ⟨σ1, H1, I1, q1⟩ => ?_)
    exact h2 pins s1 σ1 H1 _ _ Q I1 rr q1
def gTup (K : PySem.W.Frag) (n : Nat) (t : TGs) : TG := fun v σ H Q => ∃ a xs, v = .ref a ∧ SqT K H a xs ∧ xs.length = n ∧ t xs σ H Q
theorem pg_tup {es : List Expr} {k : Nat} {t : TGs} {n : Nat} (hc : X.calm = true) (h : PGs X es t)
    (hn : (assignEach es X.env).length = n := by rfl) (hst : (assignEach es X.env).findIdx? (·.1) = none := by rfl) : PG X (.Tuple es k pos) (gTup X.K n t) := by
  intro pins s σ H v u Q I r hw
  obtain ⟨a, xs, e1, hq, hl, hw⟩ := hw
  subst e1
  cases r
  obtain ⟨its, rv, ht, hz⟩ := I.tuple hq
  refine assign_Tuple_tuple (I.ok.hd hc) ht (by simp [hn, ← hl, rv.length]) hst fun h' hx => ?_
  have I1 : Inv X pins σ H { s with heap := h' } := I.kept (t' := s.toks) fun b o e => hx b o (Nat.ne_of_lt (Heap.lt_size e)) e
  exact h pins _ σ H xs _ Q I1 (by simpa using rv) hw
def tAsg (te : TE) (g : TG) : TS := fun D σ H => te σ H fun x H1 => g x σ H1 D.nx
theorem ps_set {i : Nat} {x : Str} {e : Expr} {te : TE} {pos' : Pos} (hN : X.N.Nodup) (hi : X.N[i]? = some x) (hx : Loc X.env.scope x) (he : PE X e te) (hs : swapsWith e (some (.Name x pos')) pos.line X.env = pure false := by rfl) (hf : X.fn x = true ∨ X.env.scope.names.lookup x = some .local := by first | exact .inl rfl | exact .inr rfl | assumption) :
    PS X (.Assign [.Name x pos'] e pos) (tAsg te (gName i)) := by
  intro pins s σ H D I h
  refine wpAny_Assign_Name (thn (he pins s σ H _ I h) fun v s1 ⟨y, H1, I1, r1, q1⟩ => ?_) hs
  exact store_ok I1 hN hi hx r1 (fun s2 I2 => ⟨_, H1, I2, q1⟩) hf
end
section
variable {X : Cx} {pos : Pos}
def tWhile (c : TT) (tb : TS) : TS := fun D σ H => ∃ W : Nat → St → Hp → Prop, (∃ m, W m σ H) ∧ ∀ m σ H, W m σ H →
  c σ H fun b H1 => if b = true then ∃ N : St → Hp → Prop, (∀ σ' H', N σ' H' → ∃ m', m' < m ∧ W m' σ' H') ∧ tb { D with nx := N, ct := N, bk := D.nx } σ H1 else D.nx σ H1
theorem ps_while {c : Expr} {body : List Stmt} {tc : TT} {tb : TS} (hp : PassesOwn (model X.prog X.w) X.A X.env X.xe) (hc : PT X c tc) (hb : PSs X body tb) : PS X (.While c body [] pos) (tWhile tc tb) := by
  intro pins s σ H D I h
  obtain ⟨W, ⟨m0, w0⟩, turn⟩ := h
  refine wpAny_While (codeAny_whileLoop (fun n s' => ∃ σ' H', Inv X pins σ' H' s' ∧ W n σ' H') ?_ m0 ⟨σ, H, I, w0⟩)
  rintro n s1 ⟨σ1, H1, I1, w1⟩
  refine wpAny_passesOwn hp (thn (hc pins s1 σ1 H1 _ I1 (turn n σ1 H1 w1)) fun b s2 ⟨H2, I2, q2⟩ => ?_)
  cases b with
  | true =>
    obtain ⟨N, hN, q2⟩ := q2
    rw [if_pos rfl]
    refine wpAny_passesOwn hp (thn (hb pins s2 σ1 H2 _ I2 q2) fun f s3 q3 => ?_)
    cases f with
    | next =>
      obtain ⟨σ3, H3, I3, n3⟩ := q3
      obtain ⟨m', hm, w3⟩ := hN σ3 H3 n3
      exact ⟨m', hm, σ3, H3, I3, w3⟩
    | cont =>
      obtain ⟨σ3, H3, I3, n3⟩ := q3
      obtain ⟨m', hm, w3⟩ := hN σ3 H3 n3
      exact ⟨m', hm, σ3, H3, I3, w3⟩
    | brk => exact q3
    | ret v => exact q3
  | false =>
    rw [if_neg Bool.false_ne_true]
    exact wpAny_execs_nil ⟨σ1, H2, I2, q2⟩
end
structure It where
  go : Nat → Hp → Prop
  yld : Nat → Hp → V → Hp → Prop
  stop : Nat → Hp → Prop
def FpOk (X : Cx) (pins : List (Addr × Obj)) (H : Hp) (b : Addr) : Prop :=
  H b = none ∧ b ≠ X.env.locals ∧ b ∉ X.fs ∧ (b ∈ X.ex ∨ X.s₀.heap.objs.size ≤ b) ∧ (∀ x c, X.env.cells.lookup x = some c → c ≠ b) ∧ ∀ p ∈ X.pn ++ pins, p.1 ≠ b
theorem Inv.fpOk {X : Cx} {pins : List (Addr × Obj)} {σ : St} {H H' : Hp} {s : Shared} {b : Addr} (I : Inv X pins σ H s) (hb : s.heap.objs.size ≤ b) (hn : H' b = none) : FpOk X pins H' b := by
  refine ⟨hn, Nat.ne_of_gt (Nat.lt_of_lt_of_le I.lt hb), I.nofs hb, .inr (Nat.le_trans I.sz hb), fun x c e z => ?_, fun p hp z => ?_⟩
  · obtain ⟨v, q⟩ := I.cell x c e
    exact absurd (Nat.lt_of_lt_of_le q.lt (by rw [z]; exact hb)) (Nat.lt_irrefl _)
  · exact absurd (Nat.lt_of_lt_of_le (Heap.lt_size (I.pin p hp).1) (by rw [z]; exact hb)) (Nat.lt_irrefl _)
structure Turn (P : Program) (w : World) (K : PySem.W.Frag) (tg : Expr) (J : It) (fp : List Addr) (it : Addr) (tn : Nat → Heap → Prop) : Prop where
  mem : it ∈ fp
  obj : ∀ i h, tn i h → ∀ b ∈ fp, ∃ o, h.get? b = some o ∧ ∀ v, o.data ≠ .cell v
  keep : ∀ i h h', tn i h → (∀ b ∈ fp, ∀ o, h.get? b = some o → h'.get? b = some o) → tn i h'
  item : ∀ (X : Cx), X.prog = P → X.w = w → X.K = K → X.calm = true → ∀ (i : Nat) (pins : List (Addr × Obj)) (s : Shared) (σ : St) (H : Hp) (E : Value → Shared → Prop), Inv X pins σ H s → (∀ b ∈ fp, FpOk X pins H b) → tn i s.heap → J.go i H →
    wpAny (model P w) X.A (pyNext (.ref it)) (fun r s1 => ∃ u, r = some u ∧
      wpAny (model P w) X.A (letOwnedTupleGo tg (.ref it) u) (fun _ s2 => ∃ x H', Inv X pins σ H' s2 ∧ RelV x u ∧ J.yld i H x H' ∧ tn (i + 1) s2.heap ∧ ∀ b ∈ fp, H' b = none) E s1) E s
  done : ∀ (X : Cx), X.prog = P → X.w = w → X.K = K → X.calm = true → ∀ (i : Nat) (pins : List (Addr × Obj)) (s : Shared) (σ : St) (H : Hp) (E : Value → Shared → Prop), Inv X pins σ H s → (∀ b ∈ fp, FpOk X pins H b) → tn i s.heap → J.stop i H →
    wpAny (model P w) X.A (pyNext (.ref it)) (fun r s1 => r = none ∧ Inv X pins σ H s1) E s
  self : ∀ (A : Around) (i : Nat) (s : Shared) (Q : Value → Shared → Prop) (E : Value → Shared → Prop), tn i s.heap → Q (.ref it) s → wpAny (model P w) A (pyIter (.ref it)) Q E s
abbrev TI := St → Hp → (It → Hp → Prop) → Prop
def PIE (X : Cx) (pins : List (Addr × Obj)) (σ : St) (tg : Expr) (R : It → Hp → Prop) (itv : Value) (s2 : Shared) : Prop :=
  ∃ (it : Addr) (fp : List Addr) (tn : Nat → Heap → Prop) (J : It) (H' : Hp), itv = .ref it ∧ Inv X pins σ H' s2 ∧ Turn X.prog X.w X.K tg J fp it tn ∧ tn 0 s2.heap ∧ (∀ b ∈ fp, FpOk X pins H' b) ∧ R J H'
def PI (X : Cx) (tg iter : Expr) (wi : TI) : Prop :=
  ∀ (pins : List (Addr × Obj)) (s : Shared) (σ : St) (H : Hp) (R : It → Hp → Prop), Inv X pins σ H s → wi σ H R →
    wpAny (model X.prog X.w) X.A (eval iter X.env) (fun v s1 => wpAny (model X.prog X.w) X.A (pyIter v) (PIE X pins σ tg R) X.xe s1) X.xe s
theorem go_of {M : Model} {A : Around} {E : Value → Shared → Prop} {s : Shared} {tg : Expr} {it : Addr} {u : Value} {o : Obj} {n : String} {vs : Array Value} {Q : Unit → Shared → Prop} (ho : s.heap.get? it = some o) (hc : o.cls = .type n) (hd : o.data = .fields vs)
    (hn : ["enumerate", "zip", "dict_itemiterator", "dict_reverseitemiterator", "odict_iterator", "itertools.zip_longest", "itertools.pairwise"].contains n = false) (hQ : Q () s) : wpAny M A (letOwnedTupleGo tg (.ref it) u) Q E s := by
  unfold letOwnedTupleGo
  cases tg <;> first
    | exact wpAny_pure hQ
    | (cases u <;> first
        | exact wpAny_pure hQ
        | (refine wpAny_bind (wpAny_load ho ?_)
           rw [hc, hd]
           show wpAny M A (if (["enumerate", "zip", "dict_itemiterator", "dict_reverseitemiterator", "odict_iterator", "itertools.zip_longest", "itertools.pairwise"].contains n && vs[0]? == some (rawInt _)) = true then _ else _) Q E s
           rw [if_neg (by intro h; rw [hn, Bool.false_and] at h; cases h)]
           exact wpAny_pure hQ))
def Itl (K : PySem.W.Frag) (a : Addr) : It :=
  ⟨fun i H => ∃ xs x, SqL K H a xs ∧ xs[i]? = some x, fun i H x H' => H' = H ∧ ∀ xs, SqL K H a xs → xs[i]? = some x, fun i H => ∃ xs, SqL K H a xs ∧ xs.length ≤ i⟩
def Itt (K : PySem.W.Frag) (a : Addr) : It :=
  ⟨fun i H => ∃ xs x, SqT K H a xs ∧ xs[i]? = some x, fun i H x H' => H' = H ∧ ∀ xs, SqT K H a xs → xs[i]? = some x, fun i H => ∃ xs, SqT K H a xs ∧ xs.length ≤ i⟩
def Itr (lo : Int) (n : Nat) : It := ⟨fun i _ => i < n, fun i H x H' => H' = H ∧ x = .int (lo + i), fun i _ => n ≤ i⟩
theorem turn_list {P : Program} {w : World} {K : PySem.W.Frag} {tg : Expr} (a it : Addr) : Turn P w K tg (Itl K a) [it] it (fun i h => h.IsListIter it a i) where
  mem := by simp
  obj := fun i h st b hb => by
    have e : b = it := by simpa using hb
    subst e
    obtain ⟨o, e, c, d⟩ := st
    exact ⟨o, e, fun v z => by rw [d] at z; cases z⟩
  keep := fun i h h' st k => st.at fun o e => k it (by simp) o e
  item := by
    intro X hP hw hK hc i pins s σ H E I hf st hg
    subst hP hw hK
    obtain ⟨xs, x, hq, hx⟩ := hg
    obtain ⟨its, rv, p, hz⟩ := I.list hq
    obtain ⟨u, hu, ru⟩ := rv.get hx
    obtain ⟨f0, f1, f2, f3, f4, f5⟩ := hf it (by simp)
    refine wpAny_pyNext_list_item st p.isList (x := u) (by simpa using hu) fun h' st' sb => ?_
    have I1 : Inv X pins σ H { s with heap := h' } := I.turned (t' := s.toks) (fun b o hb e => (sb.2 b hb).trans e) f0 f1 f3 f4 f5
    obtain ⟨o, e, c, d⟩ := id st'
    exact ⟨u, rfl, go_of (s := { s with heap := h' }) e c d (by decide) ⟨x, H, I1, ru, ⟨rfl, fun ys hy => by rw [I.list_inj hy hq]; exact hx⟩, st', fun b hb => (hf b hb).1⟩⟩
  done := by
    intro X hP hw hK hc i pins s σ H E I hf st hg
    subst hP hw hK
    obtain ⟨xs, hq, hx⟩ := hg
    obtain ⟨its, rv, p, hz⟩ := I.list hq
    obtain ⟨f0, f1, f2, f3, f4, f5⟩ := hf it (by simp)
    have hl := rv.length
    exact wpAny_pyNext_list_end (I.ok.hd hc) st p.isList (by simp; omega) fun h' eb => ⟨rfl, I.turned (t' := s.toks) (fun b o hb e => eb b o hb e) f0 f1 f3 f4 f5⟩
  self := fun _ _ _ _ _ st h => wpAny_pyIter_listiter st h
theorem turn_tuple {P : Program} {w : World} {K : PySem.W.Frag} {tg : Expr} (a it : Addr) : Turn P w K tg (Itt K a) [it] it (fun i h => h.IsTupleIter it a i) where
  mem := by simp
  obj := fun i h st b hb => by
    have e : b = it := by simpa using hb
    subst e
    obtain ⟨o, e, c, d⟩ := st
    exact ⟨o, e, fun v z => by rw [d] at z; cases z⟩
  keep := fun i h h' st k => st.at fun o e => k it (by simp) o e
  item := by
    intro X hP hw hK hc i pins s σ H E I hf st hg
    subst hP hw hK
    obtain ⟨xs, x, hq, hx⟩ := hg
    obtain ⟨its, rv, p, hz⟩ := I.tuple hq
    obtain ⟨u, hu, ru⟩ := rv.get hx
    obtain ⟨f0, f1, f2, f3, f4, f5⟩ := hf it (by simp)
    refine wpAny_pyNext_tuple_item st (show s.heap.IsTuple a its.toArray from p) (x := u) (by simpa using hu) fun h' st' sb => ?_
    have I1 : Inv X pins σ H { s with heap := h' } := I.turned (t' := s.toks) (fun b o hb e => (sb.2 b hb).trans e) f0 f1 f3 f4 f5
    obtain ⟨o, e, c, d⟩ := id st'
    exact ⟨u, rfl, go_of (s := { s with heap := h' }) e c d (by decide) ⟨x, H, I1, ru, ⟨rfl, fun ys hy => by rw [I.tuple_inj hy hq]; exact hx⟩, st', fun b hb => (hf b hb).1⟩⟩
  done := by
    intro X hP hw hK hc i pins s σ H E I hf st hg
    subst hP hw hK
    obtain ⟨xs, hq, hx⟩ := hg
    obtain ⟨its, rv, p, hz⟩ := I.tuple hq
    obtain ⟨f0, f1, f2, f3, f4, f5⟩ := hf it (by simp)
    have hl := rv.length
    exact wpAny_pyNext_tuple_end (I.ok.hd hc) st (show s.heap.IsTuple a its.toArray from p) (by simp; omega) fun h' eb => ⟨rfl, I.turned (t' := s.toks) (fun b o hb e => eb b o hb e) f0 f1 f3 f4 f5⟩
  self := fun _ _ _ _ _ st h => wpAny_pyIter_tupleiter st h
theorem turn_range {P : Program} {w : World} {K : PySem.W.Frag} {tg : Expr} (it : Addr) (lo : Int) (n : Nat) : Turn P w K tg (Itr lo n) [it] it (fun i h => IsRangeIter h it (lo + (i : Nat) * 1) ((n : Int) - (i : Nat)) 1) where
  mem := by simp
  obj := fun i h st b hb => by
    have e : b = it := by simpa using hb
    subst e
    exact ⟨_, st, fun v z => by
      have z' : Data.fields _ = Data.cell v := z
      cases z'⟩
  keep := fun i h h' st k => k it (by simp) _ st
  item := by
    intro X hP hw hK hc i pins s σ H E I hf st hg
    subst hP hw hK
    obtain ⟨f0, f1, f2, f3, f4, f5⟩ := hf it (by simp)
    have W := Walks.range (prog := X.prog) (w := X.w) (I.ok.hd hc) it lo 1 n
    refine W.item i s _ _ hg st fun v h' tk hv st' kk => ?_
    obtain ⟨t, rfl⟩ := hv
    have I1 : Inv X pins σ H { s with heap := h', toks := tk } := I.turned (fun b o hb e => kk b o (by simpa using hb) e) f0 f1 f3 f4 f5
    refine ⟨_, rfl, go_of (s := { s with heap := h', toks := tk }) (n := "range_iterator") st' rfl rfl (by decide) ⟨.int (lo + i), H, I1, ⟨t, ?_⟩, ⟨rfl, rfl⟩, st', fun b hb => (hf b hb).1⟩⟩
    rw [Int.mul_one]
  done := by
    intro X hP hw hK hc i pins s σ H E I hf st hg
    subst hP hw hK
    obtain ⟨f0, f1, f2, f3, f4, f5⟩ := hf it (by simp)
    exact wpAny_pyNext_range_end (I.ok.hd hc) st (by have : n ≤ i := hg; omega) fun h' eb => ⟨rfl, I.turned (t' := s.toks) (fun b o hb e => eb b o hb e) f0 f1 f3 f4 f5⟩
  self := fun _ _ _ _ _ st h => wpAny_pyIter_rangeiter st h
end L2
namespace L2
open PySem PySem.Spec PyProof.Rows
section
variable {X : Cx} {tg : Expr}
def iList (K : PySem.W.Frag) (tl : TE) : TI := fun σ H R => tl σ H fun x H1 => ∃ a, x = .ref a ∧ (∃ xs, SqL K H1 a xs) ∧ R (Itl K a) H1
def iTup (K : PySem.W.Frag) (tl : TE) : TI := fun σ H R => tl σ H fun x H1 => ∃ a, x = .ref a ∧ (∃ xs, SqT K H1 a xs) ∧ R (Itt K a) H1
theorem pi_list {l : Expr} {tl : TE} (hl : PE X l tl) : PI X tg l (iList X.K tl) := by
  intro pins s σ H R I h
  refine thn (hl pins s σ H _ I h) fun v s1 ⟨x, H1, I1, r1, q1⟩ => ?_
  obtain ⟨a, e, ⟨xs, hq⟩, q⟩ := q1
  subst e
  cases r1
  obtain ⟨its, rv, p, hz⟩ := I1.list hq
  refine wpAny_pyIter_list p.isList ?_
  refine ⟨s1.heap.objs.size, [s1.heap.objs.size], _, _, H1, rfl, I1.kept (t' := s1.toks) fun b o e => Heap.get?_push_of_some _ e, turn_list a _, ⟨_, Heap.get?_push_size _ rfl, rfl, rfl⟩, fun b hb => ?_, q⟩
  have e : b = s1.heap.objs.size := by simpa using hb
  subst e
  exact I1.fpOk (Nat.le_refl _) (I1.hok.fresh (Nat.le_refl _))
theorem pi_tup {l : Expr} {tl : TE} (hl : PE X l tl) : PI X tg l (iTup X.K tl) := by
  intro pins s σ H R I h
  refine thn (hl pins s σ H _ I h) fun v s1 ⟨x, H1, I1, r1, q1⟩ => ?_
  obtain ⟨a, e, ⟨xs, hq⟩, q⟩ := q1
  subst e
  cases r1
  obtain ⟨its, rv, p, hz⟩ := I1.tuple hq
  refine wpAny_pyIter_tuple (show s1.heap.IsTuple a its.toArray from p) ?_
  refine ⟨s1.heap.objs.size, [s1.heap.objs.size], _, _, H1, rfl, I1.kept (t' := s1.toks) fun b o e => Heap.get?_push_of_some _ e, turn_tuple a _, ⟨_, Heap.get?_push_size _ rfl, rfl, rfl⟩, fun b hb => ?_, q⟩
  have e : b = s1.heap.objs.size := by simpa using hb
  subst e
  exact I1.fpOk (Nat.le_refl _) (I1.hok.fresh (Nat.le_refl _))
theorem range_it {pins : List (Addr × Obj)} {σ : St} {H : Hp} {s : Shared} {R : It → Hp → Prop} {E : Value → Shared → Prop} {lo hi : Int} {t u v : Tok} {tk : Nat} (I : Inv X pins σ H s) (h1 : -(2 ^ 62) ≤ lo) (h2 : lo < 2 ^ 62) (h3 : -(2 ^ 62) ≤ hi) (h4 : hi < 2 ^ 62)
    (q : R (Itr lo (hi - lo).toNat) H) : wpAny (model X.prog X.w) X.A (pyIter (.ref s.heap.objs.size)) (PIE X pins σ tg R) E { s with heap := s.heap.push { cls := .type "range", data := .fields #[.int lo t, .int hi u, .int 1 v] }, toks := tk } := by
  refine wpAny_pyIter_range (IsRange.new ..) (small_one h1 h2 h3 h4) ?_
  have I1 : Inv X pins σ H { s with heap := s.heap.push { cls := .type "range", data := .fields #[.int lo t, .int hi u, .int 1 v] }, toks := tk } := I.kept fun b o e => Heap.get?_push_of_some _ e
  refine ⟨(s.heap.push { cls := .type "range", data := .fields #[.int lo t, .int hi u, .int 1 v] }).objs.size, [(s.heap.push { cls := .type "range", data := .fields #[.int lo t, .int hi u, .int 1 v] }).objs.size], _, _, H, rfl,
    I1.kept (t' := tk) fun b o e => Heap.get?_push_of_some _ e, turn_range _ lo (hi - lo).toNat, ?_, fun b hb => ?_, q⟩
  · have e1 : lo + ((0 : Nat) : Int) * 1 = lo := by simp
    have e2 : (((hi - lo).toNat : Nat) : Int) - ((0 : Nat) : Int) = Builtin.Range.rangeSize lo hi 1 := by rw [rangeSize_one]; split <;> omega
    show IsRangeIter _ _ (lo + ((0 : Nat) : Int) * 1) ((((hi - lo).toNat : Nat) : Int) - ((0 : Nat) : Int)) 1
    rw [e1, e2]
    exact Heap.get?_push_size _ rfl
  · have e : b = (s.heap.push { cls := .type "range", data := .fields #[.int lo t, .int hi u, .int 1 v] }).objs.size := by simpa using hb
    subst e
    exact I1.fpOk (Nat.le_refl _) (I1.hok.fresh (Nat.le_refl _))
def iRng1 (ta : TA) : TI := fun σ H R => ta σ H fun vs H1 => ∃ j : Int, vs = [.int j] ∧ -(2 ^ 62) ≤ j ∧ j < 2 ^ 62 ∧ R (Itr 0 j.toNat) H1
def iRng2 (ta : TA) : TI := fun σ H R => ta σ H fun vs H1 => ∃ i j : Int, vs = [.int i, .int j] ∧ (-(2 ^ 62) ≤ i ∧ i < 2 ^ 62 ∧ -(2 ^ 62) ≤ j ∧ j < 2 ^ 62) ∧ R (Itr i (j - i).toNat) H1
theorem pi_range1 {a : Expr} {ta : TA} {p pos : Pos} (hg : Gl X "range") (hm : X.mg "range" = none) (ha : PA X [a] ta) (hs : starEach [a] X.env = [(false, eval a X.env)] := by rfl) : PI X tg (.Call (.Name "range" p) [a] [] pos) (iRng1 ta) := by
  intro pins s σ H R I h
  refine Call_ (ld_blt I hg hm boot_range (PyProof.Rows.callWith_type1 (thn (ha pos pins s σ H _ I h) fun us s1 ⟨vs, H1, I1, r1, q1⟩ => ?_) hs rfl))
  obtain ⟨j, e, q1, q2, q⟩ := q1
  subst e
  cases r1 with
  | cons r rr =>
    cases rr
    obtain ⟨t, rfl⟩ := r
    exact call_range_1 (range_it I1 (by omega) (by omega) q1 q2 (by simpa using q))
theorem pi_range2 {a b : Expr} {ta : TA} {p pos : Pos} (hg : Gl X "range") (hm : X.mg "range" = none) (ha : PA X [a, b] ta) (hs : starEach [a, b] X.env = [(false, eval a X.env), (false, eval b X.env)] := by rfl) (hs2 : starEach [b] X.env = [(false, eval b X.env)] := by rfl) :
    PI X tg (.Call (.Name "range" p) [a, b] [] pos) (iRng2 ta) := by
  intro pins s σ H R I h
  refine Call_ (ld_blt I hg hm boot_range (PyProof.Rows.callWith_type1 (thn (ha pos pins s σ H _ I h) fun us s1 ⟨vs, H1, I1, r1, q1⟩ => ?_) (by rw [hs, hs2]) (by rw [hs2]; rfl)))
  obtain ⟨i, j, e, ⟨q1, q2, q3, q4⟩, q⟩ := q1
  subst e
  cases r1 with
  | cons r rr =>
    cases rr with
    | cons r' rr =>
      cases rr
      obtain ⟨t, rfl⟩ := r
      obtain ⟨t', rfl⟩ := r'
      exact call_range_2 (range_it I1 q1 q2 q3 q4 q)
def tFor (wi : TI) (g : TG) (tb : TS) : TS := fun D σ H => wi σ H fun J H1 => ∃ W : Nat → Nat → St → Hp → Prop, (∃ m, W 0 m σ H1) ∧ ∀ i m σ H, W i m σ H →
  (J.stop i H ∧ D.nx σ H) ∨ (J.go i H ∧ ∃ N : St → Hp → Prop, (∀ σ' H', N σ' H' → ∃ m', m' < m ∧ W (i + 1) m' σ' H') ∧ ∀ x H', J.yld i H x H' → g x σ H' fun σ2 H2 => tb { D with nx := N, ct := N, bk := D.nx } σ2 H2)
def pinsAt (fp : List Addr) (h : Heap) : List (Addr × Obj) := fp.filterMap fun b => (h.get? b).map fun o => (b, o)
theorem mem_pinsAt {fp : List Addr} {h : Heap} {b : Addr} {o : Obj} (hb : b ∈ fp) (e : h.get? b = some o) : (b, o) ∈ pinsAt fp h := List.mem_filterMap.mpr ⟨b, hb, by rw [e]; rfl⟩
theorem of_pinsAt {fp : List Addr} {h : Heap} {p : Addr × Obj} (hp : p ∈ pinsAt fp h) : p.1 ∈ fp ∧ h.get? p.1 = some p.2 := by
  obtain ⟨b, hb, e⟩ := List.mem_filterMap.mp hp
  cases q : h.get? b with
  | none => rw [q] at e; cases e
  | some o =>
    rw [q] at e
    have e' : (b, o) = p := Option.some.inj e
    subst e'
    exact ⟨hb, q⟩
theorem Inv.pinned {pins : List (Addr × Obj)} {σ : St} {H : Hp} {s : Shared} {fp : List Addr} (I : Inv X pins σ H s) (hf : ∀ b ∈ fp, FpOk X pins H b) (ho : ∀ b ∈ fp, ∃ o, s.heap.get? b = some o ∧ ∀ v, o.data ≠ .cell v) : Inv X (pins ++ pinsAt fp s.heap) σ H s :=
  I.pins_of fun p hp => (List.mem_append.mp hp).elim (fun z => I.pin p (List.mem_append_right _ z)) fun z => by
    obtain ⟨hb, e⟩ := of_pinsAt z
    obtain ⟨f0, f1, f2, _⟩ := hf p.1 hb
    obtain ⟨o, e', d⟩ := ho p.1 hb
    rw [e] at e'; cases e'
    exact ⟨e, f0, f1, f2, d⟩
theorem Inv.unpinned {pins pl : List (Addr × Obj)} {σ : St} {H : Hp} {s : Shared} (I : Inv X (pins ++ pl) σ H s) : Inv X pins σ H s := I.pins_of fun p hp => I.pin p (List.mem_append_right _ (List.mem_append_left _ hp))
theorem ps_for {iter : Expr} {body : List Stmt} {wi : TI} {g : TG} {tb : TS} {pos : Pos} (hp : PassesOwn (model X.prog X.w) X.A X.env X.xe) (hc : X.calm = true) (hi : PI X tg iter wi) (hg : PG X tg g) (hb : PSs X body tb)
    (hs : ∀ x, foldedSetIterable iter X.env x = pure x := by intro _; rfl) : PS X (.For tg iter body [] pos) (tFor wi g tb) := by
  intro pins s σ H D I h
  refine wpAny_For (thn (hi pins s σ H _ I h) fun v s1 h1 => thn h1 fun itv s2 h2 => ?_) hs
  obtain ⟨it, fp, tn, J, H2, e, I2, T, st2, f2, W, ⟨m0, w0⟩, turn⟩ := h2
  subst e
  have stat : ∀ {H' : Hp}, (∀ b ∈ fp, H' b = none) → ∀ b ∈ fp, FpOk X pins H' b := fun hn b hb => ⟨hn b hb, (f2 b hb).2⟩
  refine codeAny_forLoop_any (fun n s' => ∃ i σ' H', Inv X pins σ' H' s' ∧ tn i s'.heap ∧ (∀ b ∈ fp, H' b = none) ∧ W i n σ' H') ?_ m0 ⟨0, σ, H2, I2, st2, fun b hb => (f2 b hb).1, w0⟩
  rintro n s3 ⟨i, σ3, H3, I3, st3, fr3, w3⟩
  rcases turn i n σ3 H3 w3 with ⟨stop, qn⟩ | ⟨go, N, hN, step⟩
  · refine wpAny_passesOwn hp (thn (T.done X rfl rfl rfl hc i pins s3 σ3 H3 X.xe I3 (stat fr3) st3 stop) fun r s4 ⟨hr, I4⟩ => ?_)
    subst hr
    exact wpAny_execs_nil ⟨σ3, H3, I4, qn⟩
  · refine wpAny_passesOwn hp (thn (T.item X rfl rfl rfl hc i pins s3 σ3 H3 X.xe I3 (stat fr3) st3 go) fun r s4 ⟨u, hr, h4⟩ => ?_)
    subst hr
    refine wpAny_passesOwn hp (thn h4 fun _ s5 ⟨x, H5, I5, r5, y5, st5, fr5⟩ => ?_)
    have I5' := I5.pinned (stat fr5) (T.obj _ _ st5)
    refine wpAny_passesOwn hp (thn (hg _ s5 σ3 H5 x u _ I5' r5 (step x H5 y5)) fun _ s6 ⟨σ6, H6, I6, q6⟩ => ?_)
    refine wpAny_passesOwn hp (thn (hb _ s6 σ6 H6 _ I6 q6) fun f s7 q7 => ?_)
    have again : ∀ {σ7 : St} {H7 : Hp}, Inv X (pins ++ pinsAt fp s5.heap) σ7 H7 s7 → N σ7 H7 → ∃ m, m < n ∧ ∃ i σ' H', Inv X pins σ' H' s7 ∧ tn i s7.heap ∧ (∀ b ∈ fp, H' b = none) ∧ W i m σ' H' := fun {σ7 H7} I7 n7 => by
      obtain ⟨m', hm, w7⟩ := hN σ7 H7 n7
      refine ⟨m', hm, i + 1, σ7, H7, I7.unpinned, T.keep _ _ _ st5 fun b hb o e => (I7.pin (b, o) (List.mem_append_right _ (List.mem_append_right _ (mem_pinsAt hb e)))).1, fun b hb => ?_, w7⟩
      obtain ⟨o, e, d⟩ := T.obj _ _ st5 b hb
      exact (I7.pin (b, o) (List.mem_append_right _ (List.mem_append_right _ (mem_pinsAt hb e)))).2.1
    cases f with
    | next => obtain ⟨σ7, H7, I7, n7⟩ := q7; exact again I7 n7
    | cont => obtain ⟨σ7, H7, I7, n7⟩ := q7; exact again I7 n7
    | brk => obtain ⟨σ7, H7, I7, q7⟩ := q7; exact ⟨σ7, H7, I7.unpinned, q7⟩
    | ret v => obtain ⟨x7, σ7, H7, I7, r7, q7⟩ := q7; exact ⟨x7, σ7, H7, I7.unpinned, r7, q7⟩
end
theorem for_list {K : PySem.W.Frag} {a : Addr} {xs : List V} {g : TG} {tb : TS} {D : Ends} {σ : St} {H : Hp} (Pv : Nat → St → Hp → Prop) (h0 : Pv 0 σ H) (hl : ∀ i σ H, i ≤ xs.length → Pv i σ H → SqL K H a xs)
    (hs : ∀ i x σ H, xs[i]? = some x → Pv i σ H → g x σ H fun σ2 H2 => tb { D with nx := Pv (i + 1), ct := Pv (i + 1), bk := D.nx } σ2 H2) (hd : ∀ σ H, Pv xs.length σ H → D.nx σ H) :
    ∃ W : Nat → Nat → St → Hp → Prop, (∃ m, W 0 m σ H) ∧ ∀ i m σ H, W i m σ H →
      ((Itl K a).stop i H ∧ D.nx σ H) ∨ ((Itl K a).go i H ∧ ∃ N : St → Hp → Prop, (∀ σ' H', N σ' H' → ∃ m', m' < m ∧ W (i + 1) m' σ' H') ∧ ∀ x H', (Itl K a).yld i H x H' → g x σ H' fun σ2 H2 => tb { D with nx := N, ct := N, bk := D.nx } σ2 H2) := by
  refine ⟨fun i m σ H => m = xs.length - i ∧ i ≤ xs.length ∧ Pv i σ H, ⟨xs.length, by simp, Nat.zero_le _, h0⟩, ?_⟩
  rintro i m σ H ⟨rfl, hi, p⟩
  have q := hl i σ H hi p
  by_cases hlt : i < xs.length
  · refine .inr ⟨⟨xs, xs[i], q, by simp [hlt]⟩, Pv (i + 1), fun σ' H' p' => ⟨xs.length - (i + 1), by omega, rfl, hlt, p'⟩, fun x H' y => ?_⟩
    obtain ⟨e, y⟩ := y
    subst e
    exact hs i x σ _ (y xs q) p
  · have e : i = xs.length := by omega
    subst e
    exact .inl ⟨⟨xs, q, Nat.le_refl _⟩, hd σ H p⟩
theorem for_tup {K : PySem.W.Frag} {a : Addr} {xs : List V} {g : TG} {tb : TS} {D : Ends} {σ : St} {H : Hp} (Pv : Nat → St → Hp → Prop) (h0 : Pv 0 σ H) (hl : ∀ i σ H, i ≤ xs.length → Pv i σ H → SqT K H a xs)
    (hs : ∀ i x σ H, xs[i]? = some x → Pv i σ H → g x σ H fun σ2 H2 => tb { D with nx := Pv (i + 1), ct := Pv (i + 1), bk := D.nx } σ2 H2) (hd : ∀ σ H, Pv xs.length σ H → D.nx σ H) :
    ∃ W : Nat → Nat → St → Hp → Prop, (∃ m, W 0 m σ H) ∧ ∀ i m σ H, W i m σ H →
      ((Itt K a).stop i H ∧ D.nx σ H) ∨ ((Itt K a).go i H ∧ ∃ N : St → Hp → Prop, (∀ σ' H', N σ' H' → ∃ m', m' < m ∧ W (i + 1) m' σ' H') ∧ ∀ x H', (Itt K a).yld i H x H' → g x σ H' fun σ2 H2 => tb { D with nx := N, ct := N, bk := D.nx } σ2 H2) := by
  refine ⟨fun i m σ H => m = xs.length - i ∧ i ≤ xs.length ∧ Pv i σ H, ⟨xs.length, by simp, Nat.zero_le _, h0⟩, ?_⟩
  rintro i m σ H ⟨rfl, hi, p⟩
  have q := hl i σ H hi p
  by_cases hlt : i < xs.length
  · refine .inr ⟨⟨xs, xs[i], q, by simp [hlt]⟩, Pv (i + 1), fun σ' H' p' => ⟨xs.length - (i + 1), by omega, rfl, hlt, p'⟩, fun x H' y => ?_⟩
    obtain ⟨e, y⟩ := y
    subst e
    exact hs i x σ _ (y xs q) p
  · have e : i = xs.length := by omega
    subst e
    exact .inl ⟨⟨xs, q, Nat.le_refl _⟩, hd σ H p⟩
theorem for_range {lo : Int} {n : Nat} {g : TG} {tb : TS} {D : Ends} {σ : St} {H : Hp} (Pv : Nat → St → Hp → Prop) (h0 : Pv 0 σ H)
    (hs : ∀ i σ H, i < n → Pv i σ H → g (.int (lo + i)) σ H fun σ2 H2 => tb { D with nx := Pv (i + 1), ct := Pv (i + 1), bk := D.nx } σ2 H2) (hd : ∀ σ H, Pv n σ H → D.nx σ H) :
    ∃ W : Nat → Nat → St → Hp → Prop, (∃ m, W 0 m σ H) ∧ ∀ i m σ H, W i m σ H →
      ((Itr lo n).stop i H ∧ D.nx σ H) ∨ ((Itr lo n).go i H ∧ ∃ N : St → Hp → Prop, (∀ σ' H', N σ' H' → ∃ m', m' < m ∧ W (i + 1) m' σ' H') ∧ ∀ x H', (Itr lo n).yld i H x H' → g x σ H' fun σ2 H2 => tb { D with nx := N, ct := N, bk := D.nx } σ2 H2) := by
  refine ⟨fun i m σ H => m = n - i ∧ i ≤ n ∧ Pv i σ H, ⟨n, by simp, Nat.zero_le _, h0⟩, ?_⟩
  rintro i m σ H ⟨rfl, hi, p⟩
  by_cases hlt : i < n
  · refine .inr ⟨hlt, Pv (i + 1), fun σ' H' p' => ⟨n - (i + 1), by omega, rfl, hlt, p'⟩, fun x H' y => ?_⟩
    obtain ⟨e, y⟩ := y
    subst e y
    exact hs i σ _ hlt p
  · have e : i = n := by omega
    subst e
    exact .inl ⟨Nat.le_refl _, hd σ H p⟩
end L2
namespace L2
open PySem PySem.Spec PyProof.Rows
abbrev R2 := V → V → Hp → VK → Prop
def OpR (X : Cx) (f : Value → Value → Sem Value) (r : R2) : Prop :=
  ∀ (pins : List (Addr × Obj)) (s : Shared) (σ : St) (H : Hp) (x y : V) (v u : Value) (Q : VK), Inv X pins σ H s → RelV x v → RelV y u → r x y H Q →
    wpAny (model X.prog X.w) X.A (f v u) (EP X pins σ Q) X.xe s
def UnR (X : Cx) (f : Value → Sem Value) (r : V → Hp → VK → Prop) : Prop :=
  ∀ (pins : List (Addr × Obj)) (s : Shared) (σ : St) (H : Hp) (x : V) (v : Value) (Q : VK), Inv X pins σ H s → RelV x v → r x H Q →
    wpAny (model X.prog X.w) X.A (f v) (EP X pins σ Q) X.xe s
def CallR (X : Cx) (f : Value) (r : List V → Hp → VK → Prop) : Prop :=
  ∀ (pins : List (Addr × Obj)) (s : Shared) (σ : St) (H : Hp) (xs : List V) (us : List Value) (Q : VK), Inv X pins σ H s → Vals xs us → r xs H Q →
    wpAny (model X.prog X.w) X.A (call f us) (EP X pins σ Q) X.xe s
def tOp (r : R2) (ta tb : TE) : TE := fun σ H Q => ta σ H fun x H1 => tb σ H1 fun y H2 => r x y H2 Q
def tUn (r : V → Hp → VK → Prop) (ta : TE) : TE := fun σ H Q => ta σ H fun x H1 => r x H1 Q
def rI (C : Int → Int → Prop) (g : Int → Int → V) : R2 := fun x y H Q => ∃ i j, x = .int i ∧ y = .int j ∧ C i j ∧ Q (g i j) H
def rI0 (g : Int → Int → V) : R2 := fun x y H Q => ∃ i j, x = .int i ∧ y = .int j ∧ Q (g i j) H
def rU (g : Int → V) : V → Hp → VK → Prop := fun x H Q => ∃ i, x = .int i ∧ Q (g i) H
section
variable {X : Cx} {a b c : Expr} {ta tb tc : TE} {pos : Pos}
theorem binT (ha : PE X a ta) (hb : PE X b tb) {pins : List (Addr × Obj)} {s : Shared} {σ : St} {H : Hp} {R : V → V → Hp → Prop} (I : Inv X pins σ H s)
    (h : ta σ H fun x H1 => tb σ H1 fun y H2 => R x y H2) {Q : Value → Shared → Prop} {f : Value → Value → Sem Value}
    (hf : ∀ v u s2 x y H2, Inv X pins σ H2 s2 → RelV x v → RelV y u → R x y H2 → wpAny (model X.prog X.w) X.A (f v u) Q X.xe s2) :
    wpAny (model X.prog X.w) X.A (eval a X.env) (fun v s₁ => wpAny (model X.prog X.w) X.A (eval b X.env) (fun u s₂ => wpAny (model X.prog X.w) X.A (f v u) Q X.xe s₂) X.xe s₁) X.xe s := by
  refine thn (ha pins s σ H _ I h) fun v s1 ⟨x, H1, I1, r1, q1⟩ => ?_
  refine thn (hb pins s1 σ H1 _ I1 q1) fun u s2 ⟨y, H2, I2, r2, q2⟩ => ?_
  exact hf v u s2 x y H2 I2 r1 r2 q2
theorem pe_op {op : Operator} {r : R2} (ho : OpR X (binaryOp op) r) (ha : PE X a ta) (hb : PE X b tb) : PE X (.BinOp a op b pos) (tOp r ta tb) := by
  intro pins s σ H Q I h
  exact wpAny_BinOp (binT ha hb I h fun v u s2 x y H2 I2 rx ry q => ho pins s2 σ H2 x y v u Q I2 rx ry q)
theorem pe_un {op : UnaryOp} {r : V → Hp → VK → Prop} (ho : UnR X (unaryOp op) r) (ha : PE X a ta) : PE X (.UnaryOp op a pos) (tUn r ta) := by
  intro pins s σ H Q I h
  exact UnaryOp_ (thn (ha pins s σ H _ I h) fun v s1 ⟨x, H1, I1, r1, q1⟩ => ho pins s1 σ H1 x v Q I1 r1 q1)
theorem opI {f : Value → Value → Sem Value} {C : Int → Int → Prop} {g : Int → Int → Int}
    (rule : ∀ (i j : Int) (t u : Tok) (s : Shared) (Q : Value → Shared → Prop) (E : Value → Shared → Prop), C i j → Q (.int (g i j) s.toks) { s with toks := s.toks + 1 } → wpAny (model X.prog X.w) X.A (f (.int i t) (.int j u)) Q E s) :
    OpR X f (rI C fun i j => .int (g i j)) := by
  intro pins s σ H x y v u Q I rx ry h
  obtain ⟨i, j, rfl, rfl, hc, q⟩ := h
  obtain ⟨t, rfl⟩ := rx
  obtain ⟨t', rfl⟩ := ry
  exact rule i j t t' s _ _ hc ⟨.int (g i j), H, I.tok _, ⟨_, rfl⟩, q⟩
theorem opI0 {f : Value → Value → Sem Value} {g : Int → Int → Int}
    (rule : ∀ (i j : Int) (t u : Tok) (s : Shared) (Q : Value → Shared → Prop) (E : Value → Shared → Prop), Q (.int (g i j) s.toks) { s with toks := s.toks + 1 } → wpAny (model X.prog X.w) X.A (f (.int i t) (.int j u)) Q E s) :
    OpR X f (rI0 fun i j => .int (g i j)) := by
  intro pins s σ H x y v u Q I rx ry h
  obtain ⟨i, j, rfl, rfl, q⟩ := h
  obtain ⟨t, rfl⟩ := rx
  obtain ⟨t', rfl⟩ := ry
  exact rule i j t t' s _ _ ⟨.int (g i j), H, I.tok _, ⟨_, rfl⟩, q⟩
theorem opB0 {f : Value → Value → Sem Value} {g : Int → Int → Bool}
    (rule : ∀ (i j : Int) (t u : Tok) (s : Shared) (Q : Value → Shared → Prop) (E : Value → Shared → Prop), Q (.bool (g i j)) s → wpAny (model X.prog X.w) X.A (f (.int i t) (.int j u)) Q E s) :
    OpR X f (rI0 fun i j => .bl (g i j)) := by
  intro pins s σ H x y v u Q I rx ry h
  obtain ⟨i, j, rfl, rfl, q⟩ := h
  obtain ⟨t, rfl⟩ := rx
  obtain ⟨t', rfl⟩ := ry
  exact rule i j t t' s _ _ ⟨.bl (g i j), H, I, rfl, q⟩
def CDiv (i j : Int) : Prop := 0 < j ∧ j < 1073741824
def CPow (i j : Int) : Prop := 0 ≤ j ∧ j ≤ 1000000 ∧ i.natAbs < 2 ^ 64
def CMul (i j : Int) : Prop := (-(2 ^ 64) < i ∧ i < 2 ^ 64) ∨ (-(2 ^ 64) < j ∧ j < 2 ^ 64)
theorem CMul.ok {i j : Int} (h : CMul i j) : IntMulOk i j := by
  rcases h with ⟨h1, h2⟩ | ⟨h1, h2⟩
  · exact .of_left (intBits_le_64 h1 h2)
  · exact .of_right (intBits_le_64 h1 h2)
theorem op_add : OpR X (binaryOp .Add) (rI0 fun i j => .int (i + j)) := opI0 fun _ _ _ _ _ _ _ q => add_int q
theorem op_sub : OpR X (binaryOp .Sub) (rI0 fun i j => .int (i - j)) := opI0 fun _ _ _ _ _ _ _ q => sub_int q
theorem op_mul : OpR X (binaryOp .Mult) (rI CMul fun i j => .int (i * j)) := opI fun _ _ _ _ _ _ _ hc q => mul_int q hc.ok
theorem op_fdiv : OpR X (binaryOp .FloorDiv) (rI CDiv fun i j => .int (i / j)) := opI fun i j _ _ _ _ _ hc q => by
  have h1 : (0 : Int) < j := hc.1
  have h2 : j < 1073741824 := hc.2
  exact floordiv_int (by omega) (by rw [Int.fdiv_eq_ediv_of_nonneg i (by omega)]; exact q) (.inl (PyProof.noPylong_small (by omega)))
theorem op_mod : OpR X (binaryOp .Mod) (rI (fun _ j => 0 < j) fun i j => .int (i % j)) := opI fun i j _ _ _ _ _ hc q => by
  have h1 : (0 : Int) < j := hc
  exact mod_int' (by omega) (by rw [Int.fmod_eq_emod_of_nonneg i (by omega)]; exact q)
theorem op_pow : OpR X (binaryOp .Pow) (rI CPow fun i j => .int (i ^ j.toNat)) := opI fun _ _ _ _ _ _ _ hc q => pow_int_small hc.1 hc.2.1 hc.2.2 q
theorem unI {f : Value → Sem Value} {g : Int → Int}
    (rule : ∀ (i : Int) (t : Tok) (s : Shared) (Q : Value → Shared → Prop) (E : Value → Shared → Prop), Q (.int (g i) s.toks) { s with toks := s.toks + 1 } → wpAny (model X.prog X.w) X.A (f (.int i t)) Q E s) :
    UnR X f (rU fun i => .int (g i)) := by
  intro pins s σ H x v Q I rx h
  obtain ⟨i, rfl, q⟩ := h
  obtain ⟨t, rfl⟩ := rx
  exact rule i t s _ _ ⟨.int (g i), H, I.tok _, ⟨_, rfl⟩, q⟩
theorem un_neg : UnR X (unaryOp .USub) (rU fun i => .int (-i)) := unI fun _ _ _ _ _ q => neg_int q
end
def scal : V → V → Bool
  | .non, .non => true | .non, .int _ => true | .int _, .non => true | .non, .bl _ => true | .bl _, .non => true | .non, .str _ => true | .str _, .non => true
  | .int _, .int _ => true | .bl _, .bl _ => true | .str _, .str _ => true | .byt _, .byt _ => true
  | .int _, .str _ => true | .str _, .int _ => true | .bl _, .str _ => true | .str _, .bl _ => true
  | _, _ => false
def rEq : R2 := fun x y H Q => scal x y = true ∧ Q (.bl (decide (x = y))) H
def rNe : R2 := fun x y H Q => scal x y = true ∧ Q (.bl (!decide (x = y))) H
theorem dec_int {i j : Int} : decide (V.int i = V.int j) = (i == j) := by
  rw [Bool.eq_iff_iff]
  simp
theorem dec_bl {i j : Bool} : decide (V.bl i = V.bl j) = (i == j) := by
  rw [Bool.eq_iff_iff]
  simp
theorem dec_str {i j : Str} : decide (V.str i = V.str j) = (i == j) := by
  rw [Bool.eq_iff_iff]
  simp
theorem dec_byt {i j : Array UInt8} : decide (V.byt i = V.byt j) = (i.toList == j.toList) := by
  rw [Bool.eq_iff_iff]
  cases i
  cases j
  simp
section
variable {X : Cx} {a b c : Expr} {ta tb tc : TE} {pos : Pos}
theorem fin_bl {pins : List (Addr × Obj)} {σ : St} {H : Hp} {s : Shared} {Q : VK} {k k' : Bool} (I : Inv X pins σ H s) (q : Q (.bl k) H) (e : k = k') : EP X pins σ Q (.bool k') s := by
  subst e
  exact ⟨.bl k, H, I, rfl, q⟩
theorem op_eq : OpR X (compareOp .Eq) rEq := by
  intro pins s σ H x y v u Q I rx ry h
  obtain ⟨hs, q⟩ := h
  cases x with
  | non =>
    cases rx
    cases y with
    | non => cases ry; exact PySem.EqNone.eq_none_none (fin_bl I q (by simp))
    | bl j => cases ry; exact PySem.EqNone.eq_none_bool (fin_bl I q (by simp))
    | int j => obtain ⟨t', rfl⟩ := ry; exact PySem.EqNone.eq_none_int (fin_bl I q (by simp))
    | str j => obtain ⟨t', rfl⟩ := ry; exact PySem.EqNone.eq_none_str (fin_bl I q (by simp))
    | _ => exact absurd (show false = true from hs) Bool.false_ne_true
  | bl i =>
    cases rx
    cases y with
    | non => cases ry; exact PySem.EqNone.eq_bool_none (fin_bl I q (by simp))
    | bl j => cases ry; exact eq_bool (fin_bl I q dec_bl)
    | str j => obtain ⟨t', rfl⟩ := ry; exact PySem.EqMixed.eq_bool_str (fin_bl I q (by simp))
    | _ => exact absurd (show false = true from hs) Bool.false_ne_true
  | int i =>
    obtain ⟨t, rfl⟩ := rx
    cases y with
    | non => cases ry; exact PySem.EqNone.eq_int_none (fin_bl I q (by simp))
    | int j => obtain ⟨t', rfl⟩ := ry; exact eq_int (fin_bl I q dec_int)
    | str j => obtain ⟨t', rfl⟩ := ry; exact PySem.EqMixed.eq_int_str (fin_bl I q (by simp))
    | _ => exact absurd (show false = true from hs) Bool.false_ne_true
  | str i =>
    obtain ⟨t, rfl⟩ := rx
    cases y with
    | non => cases ry; exact PySem.EqNone.eq_str_none (fin_bl I q (by simp))
    | bl j => cases ry; exact PySem.EqMixed.eq_str_bool (fin_bl I q (by simp))
    | int j => obtain ⟨t', rfl⟩ := ry; exact PySem.EqMixed.eq_str_int (fin_bl I q (by simp))
    | str j => obtain ⟨t', rfl⟩ := ry; exact eq_str (fin_bl I q dec_str)
    | _ => exact absurd (show false = true from hs) Bool.false_ne_true
  | byt i =>
    obtain ⟨t, rfl⟩ := rx
    cases y with
    | byt j => obtain ⟨t', rfl⟩ := ry; exact PySem.W.eq_bytes (fin_bl I q dec_byt)
    | _ => exact absurd (show false = true from hs) Bool.false_ne_true
  | _ => cases y <;> exact absurd (show false = true from hs) Bool.false_ne_true
theorem op_ne : OpR X (compareOp .NotEq) rNe := by
  intro pins s σ H x y v u Q I rx ry h
  obtain ⟨hs, q⟩ := h
  cases x with
  | non =>
    cases rx
    cases y with
    | non => cases ry; exact PySem.EqNone.ne_none_none (fin_bl I q (by simp))
    | bl j => cases ry; exact PySem.EqNone.ne_none_bool (fin_bl I q (by simp))
    | int j => obtain ⟨t', rfl⟩ := ry; exact PySem.EqNone.ne_none_int (fin_bl I q (by simp))
    | str j => obtain ⟨t', rfl⟩ := ry; exact PySem.EqNone.ne_none_str (fin_bl I q (by simp))
    | _ => exact absurd (show false = true from hs) Bool.false_ne_true
  | bl i =>
    cases rx
    cases y with
    | non => cases ry; exact PySem.EqNone.ne_bool_none (fin_bl I q (by simp))
    | bl j => cases ry; exact ne_bool (fin_bl I q (congrArg not dec_bl))
    | str j => obtain ⟨t', rfl⟩ := ry; exact PySem.EqMixed.ne_bool_str (fin_bl I q (by simp))
    | _ => exact absurd (show false = true from hs) Bool.false_ne_true
  | int i =>
    obtain ⟨t, rfl⟩ := rx
    cases y with
    | non => cases ry; exact PySem.EqNone.ne_int_none (fin_bl I q (by simp))
    | int j => obtain ⟨t', rfl⟩ := ry; exact ne_int (fin_bl I q (congrArg not dec_int))
    | str j => obtain ⟨t', rfl⟩ := ry; exact PySem.EqMixed.ne_int_str (fin_bl I q (by simp))
    | _ => exact absurd (show false = true from hs) Bool.false_ne_true
  | str i =>
    obtain ⟨t, rfl⟩ := rx
    cases y with
    | non => cases ry; exact PySem.EqNone.ne_str_none (fin_bl I q (by simp))
    | bl j => cases ry; exact PySem.EqMixed.ne_str_bool (fin_bl I q (by simp))
    | int j => obtain ⟨t', rfl⟩ := ry; exact PySem.EqMixed.ne_str_int (fin_bl I q (by simp))
    | str j => obtain ⟨t', rfl⟩ := ry; exact ne_str (fin_bl I q (congrArg not dec_str))
    | _ => exact absurd (show false = true from hs) Bool.false_ne_true
  | byt i =>
    obtain ⟨t, rfl⟩ := rx
    cases y with
    | byt j => obtain ⟨t', rfl⟩ := ry; exact PySem.W.ne_bytes (fin_bl I q (congrArg not dec_byt))
    | _ => exact absurd (show false = true from hs) Bool.false_ne_true
  | _ => cases y <;> exact absurd (show false = true from hs) Bool.false_ne_true
theorem op_lt : OpR X (compareOp .Lt) (rI0 fun i j => .bl (decide (i < j))) := opB0 fun _ _ _ _ _ _ _ q => lt_int q
theorem op_gt : OpR X (compareOp .Gt) (rI0 fun i j => .bl (decide (j < i))) := opB0 fun _ _ _ _ _ _ _ q => gt_int q
theorem op_ge : OpR X (compareOp .GtE) (rI0 fun i j => .bl (decide (j ≤ i))) := opB0 fun _ _ _ _ _ _ _ q => ge_int q
theorem nomark (b : Expr) {op : CmpOp} (h : op ≠ .In := by decide) (h2 : op ≠ .NotIn := by decide) : behindInMarks op b = false := by
  have e1 : (op == CmpOp.In) = false := by cases op <;> first | rfl | exact absurd rfl h
  have e2 : (op == CmpOp.NotIn) = false := by cases op <;> first | rfl | exact absurd rfl h2
  cases b <;> simp [behindInMarks, e1, e2]
theorem pe_cmpR {op : CmpOp} {r : R2} (ho : OpR X (compareOp op) r) (ha : PE X a ta) (hb : PE X b tb) (hm : behindInMarks op b = false) : PE X (.Compare a [op] [b] pos) (tOp r ta tb) := by
  intro pins s σ H Q I h
  exact wpAny_Compare1 (binT ha hb I h fun v u s2 x y H2 I2 rx ry q => ho pins s2 σ H2 x y v u Q I2 rx ry q) hm
def tTest (t : TE) : TT := fun σ H Q => t σ H fun x H' => ∃ k, x = .bl k ∧ Q k H'
theorem pt_cmpR {op : CmpOp} {r : R2} (ho : OpR X (compareOp op) r) (ha : PE X a ta) (hb : PE X b tb) (hm : behindInMarks op b = false) : PT X (.Compare a [op] [b] pos) (tTest (tOp r ta tb)) := by
  intro pins s σ H Q I h
  refine wpAny_isTrue_Compare1 (thn (ha pins s σ H _ I h) fun v s1 ⟨x, H1, I1, r1, q1⟩ => thn (hb pins s1 σ H1 _ I1 q1) fun u s2 ⟨y, H2, I2, r2, q2⟩ =>
    thn (ho pins s2 σ H2 x y v u _ I2 r1 r2 q2) fun c s3 ⟨z, H3, I3, r3, k, e, q3⟩ => ?_) hm
  subst e
  cases r3
  exact wpAny_truthy_bool ⟨H3, I3, q3⟩
theorem line63 : (sizeLine : Nat) < 2 ^ 63 := by rw [sizeLine_eq]; decide
theorem op_add_str : OpR X (binaryOp .Add) (fun x y H Q => ∃ i j, x = .str i ∧ y = .str j ∧ i.length + j.length ≤ sizeLine ∧ Q (.str (i ++ j)) H) := by
  intro pins s σ H x y v u Q I rx ry h
  obtain ⟨i, j, rfl, rfl, hz, q⟩ := h
  obtain ⟨t, rfl⟩ := rx
  obtain ⟨t', rfl⟩ := ry
  exact add_str (fun t' tk => ⟨.str (i ++ j), H, I.tok _, ⟨_, rfl⟩, q⟩) hz
theorem vals1 {x : V} {us : List Value} (r : Vals [x] us) : ∃ u, us = [u] ∧ RelV x u := by
  cases r with
  | cons r1 r2 => cases r2; exact ⟨_, rfl, r1⟩
theorem vals2 {x y : V} {us : List Value} (r : Vals [x, y] us) : ∃ u w', us = [u, w'] ∧ RelV x u ∧ RelV y w' := by
  cases r with
  | cons r1 r2 =>
    cases r2 with
    | cons r3 r4 => cases r4; exact ⟨_, _, rfl, r1, r3⟩
theorem call_max2 (hc : X.calm = true) : CallR X (.builtin "max") (fun xs H Q => ∃ i j, xs = [.int i, .int j] ∧ Q (.int (if j > i then j else i)) H) := by
  intro pins s σ H xs us Q I r h
  obtain ⟨i, j, rfl, q⟩ := h
  obtain ⟨u, w', rfl, ⟨t, rfl⟩, ⟨t', rfl⟩⟩ := vals2 r
  refine max_two_ints (I.ok.hd hc) fun h' tk k => ⟨_, H, I.kept k, ?_, q⟩
  by_cases hj : j > i
  · rw [if_pos hj, if_pos hj]; exact ⟨_, rfl⟩
  · rw [if_neg hj, if_neg hj]; exact ⟨_, rfl⟩
theorem call_min2 (hc : X.calm = true) : CallR X (.builtin "min") (fun xs H Q => ∃ i j, xs = [.int i, .int j] ∧ Q (.int (if j < i then j else i)) H) := by
  intro pins s σ H xs us Q I r h
  obtain ⟨i, j, rfl, q⟩ := h
  obtain ⟨u, w', rfl, ⟨t, rfl⟩, ⟨t', rfl⟩⟩ := vals2 r
  refine min_two_ints (I.ok.hd hc) fun h' tk k => ⟨_, H, I.kept k, ?_, q⟩
  by_cases hj : j < i
  · rw [if_pos hj, if_pos hj]; exact ⟨_, rfl⟩
  · rw [if_neg hj, if_neg hj]; exact ⟨_, rfl⟩
theorem call_int1 : CallR X (.type "int") (fun xs H Q => (∃ i, xs = [.int i] ∧ Q (.int i) H) ∨ ∃ k, xs = [.bl k] ∧ Q (.int (if k then 1 else 0)) H) := by
  intro pins s σ H xs us Q I r h
  rcases h with ⟨i, rfl, q⟩ | ⟨k, rfl, q⟩
  · obtain ⟨u, rfl, t, rfl⟩ := vals1 r
    exact call_int_int ⟨.int i, H, I, ⟨_, rfl⟩, q⟩
  · obtain ⟨u, rfl, r1⟩ := vals1 r
    cases r1
    exact call_int_bool ⟨.int (if k then 1 else 0), H, I.tok _, ⟨_, rfl⟩, q⟩
end
end L2
namespace L2
open PySem PySem.Spec PyProof.Rows
structure ObjM (h : Heap) (x dx C : Addr) (mA : Str → Option Value) : Prop where
  obj : h.get? x = some (PySem.W.instObj C dx)
  ns : h.Ns1 dx mA
  ne : dx ≠ x
theorem lookIn_ns {h : Heap} {dx : Addr} {mA : Str → Option Value} (n : h.Ns1 dx mA) : ∃ od, h.get? dx = some od ∧ ∀ name, PySem.W.lookIn name od = some (mA name) := by
  obtain ⟨o, es, ep, ho, hd, hk, _, hm⟩ := n
  refine ⟨o, ho, fun name => ?_⟩
  have e := hm name
  unfold nsFind findBy at e
  rw [← Array.find?_toList] at e
  unfold PySem.W.lookIn
  rw [hd]
  dsimp only
  split
  · rename_i y q
    rw [q] at e
    exact congrArg some e
  · rename_i q
    rw [q] at e
    have a : es.toList.any (·.refKey) = false := by
      rw [List.any_eq_false]
      intro y hy
      obtain ⟨z, t, hkey⟩ := hk y (Array.mem_toList_iff.mp hy)
      simp [DictEntry.refKey, hkey]
    have a' : ¬ es.toList.any (·.refKey) = true := by rw [a]; exact Bool.false_ne_true
    rw [if_neg a']
    exact congrArg some e
theorem ObjM.look {h : Heap} {x dx C : Addr} {mA : Str → Option Value} (I : ObjM h x dx C mA) : ∃ od, PySem.W.InstAt h x (PySem.W.instObj C dx) C (some od) ∧ ∀ name, PySem.W.lookIn name od = some (mA name) :=
  let ⟨od, ho, hl⟩ := lookIn_ns I.ns
  ⟨od, ⟨I.obj, rfl, rfl, ho⟩, hl⟩
section
variable {prog : Program} {w : World} {A : Around} {E : Value → Shared → Prop} {s : Shared} {K : PySem.W.Frag} {x dx C f : Addr} {mA : Str → Option Value} {name : Str} {v : Value}
theorem get_map {expr : Bool} {Q : Value → Shared → Prop} (X : K.In s.heap) (I : ObjM s.heap x dx C mA) (hg : PySem.W.plainGet K C name = true) (hh : PySem.W.hasDictIn K C = true)
    (ha : PySem.W.findIn K (.ref C) name = some none) (hv : mA name = some v) (hv' : PySem.W.handedIn v = true) (h : Q v { s with toks := s.toks + 1 }) :
    wpAny (model prog w) A (getAttr (.ref x) name expr) Q E s := by
  obtain ⟨od, J, hl⟩ := I.look
  exact PySem.W.get_value X J (PySem.W.plainGet_of hg).1 (PySem.W.findObj_own hh ha rfl (by rw [hl, hv])) hv' h
theorem get_meth {pl : Sem Bool} {Q : Value × List Value → Shared → Prop} (X : K.In s.heap) (I : ObjM s.heap x dx C mA) (hg : PySem.W.plainGet K C name = true)
    (hf : PySem.W.findIn K (.ref C) name = some (some (.ref f))) (ht : PySem.W.isFn K (.ref f) = true) (hv : mA name = none) (h : Q (.ref f, [.ref x]) s) :
    wpAny (model prog w) A (getMethod (.ref x) name pl) Q E s := by
  obtain ⟨od, J, hl⟩ := I.look
  exact PySem.W.method_fn X J (PySem.W.plainGet_of hg).1 (PySem.W.plainGet_of hg).2 hf (beq_iff_eq.mp ht) (by show (PySem.W.lookIn name od).map (·.isSome) = some false; rw [hl, hv]; rfl) h
theorem set_map {ns : List Str} {Q : Unit → Shared → Prop} (X : K.In s.heap) (I : ObjM s.heap x dx C mA)
    (hs : PySem.W.findIn K (.ref C) "__setattr__" = some (some (.builtin "object.__setattr__"))) (hp : PySem.W.plainOver K C = true) (ht : PySem.W.takerIn K C name = some none) (hh : PySem.W.hasDictIn K C = true)
    (hw : PySem.Within mA ns) (hsz : ns.length ≤ sizeLine)
    (h : ∀ h', ObjM h' x dx C (fun y => if y = name then some v else mA y) → Heap.SameBut dx s.heap h' → Q () { s with heap := h', toks := s.toks + 2 }) :
    wpAny (model prog w) A (setAttr (.ref x) name v) Q E s := by
  obtain ⟨od, J, hl⟩ := I.look
  refine PySem.W.set_plain X J hs (PySem.W.osa_open (s := { s with toks := s.toks + 1 }) (r := none) X J hp ht fun b => ?_)
  obtain ⟨cd, hc, hd'⟩ := PySem.W.any_some hh
  have hx : s.heap.get? x = some ⟨.ref C, some dx, .plain, #[]⟩ := I.obj
  refine wpAny_bind (wpAny_pure (wpAny_bind (wpAny_bind (wpAny_loadPart hx (wpAny_bind (PySem.W.Looks.here (s := { s with toks := s.toks + 1 }) (PySem.W.looks_clsIn X hc) ?_))))))
  rw [hd']
  refine wpAny_pure (a := some dx) (wpAny_bind (wpAny_pure (wpAny_bind ?_)))
  refine wpAny_nsSet1 (s := { s with toks := s.toks + 1 }) I.ns fun h' hn2 hs2 => ?_
  obtain ⟨oD, esD, epD, hoD, hdD, hcD⟩ := hn2.count (PySem.Within.cons name v hw)
  refine wpAny_bind (wpAny_lookBehind hoD (by rw [hdD]; exact pastItsLine_dict (Nat.le_trans hcD (by rw [List.length_cons]; omega))) ?_)
  exact wpAny_pure (h _ ⟨(hs2.2 _ (Ne.symm I.ne)).trans I.obj, hn2, I.ne⟩ hs2)
theorem make_map {R : Result → Shared → Prop} {vs : List Value} {kw : List (Str × Value)} (X : K.In s.heap) (hm : PySem.W.makesIn K C = true)
    (hi : PySem.W.findIn K (.ref C) "__init__" = some (some (.ref f))) (hf : PySem.W.typeIn K (.ref f) = some (.type "function"))
    (h : codeAny (model prog w) (A.under (.builtin "type.__call__" ⟨.ref C :: vs, kw⟩)) (.call (.ref f) ⟨.ref (s.heap.objs.size + 1) :: vs, kw⟩) (PySem.W.InitBack (s.heap.objs.size + 1) R)
      { s with heap := (s.heap.push PySem.W.emptyDict).push (PySem.W.instObj C s.heap.objs.size) }) :
    codeAny (model prog w) A (.call (.ref C) ⟨vs, kw⟩) R s := by
  obtain ⟨hh, g, d, t, os⟩ := s
  exact PySem.W.make_core (PySem.W.makes_of X hm) (PySem.W.looks_findIn X hi) (fun self => PySem.W.bind_fn X self hf) (.inl rfl) h
end
def putF (f : Str) (v : V) : List (Str × V) → List (Str × V)
  | [] => [(f, v)]
  | (g, x) :: r => if g = f then (g, v) :: r else (g, x) :: putF f v r
theorem lookup_putF (f g : Str) (v : V) : ∀ fs : List (Str × V), (putF f v fs).lookup g = if g = f then some v else fs.lookup g
  | [] => by
    show List.lookup g [(f, v)] = _
    by_cases h : g = f
    · have hb : (g == f) = true := beq_iff_eq.mpr h
      simp only [List.lookup, hb, if_pos h]
    · have hb : (g == f) = false := beq_eq_false_iff_ne.mpr h
      simp only [List.lookup, hb, if_neg h]
  | (k, x) :: r => by
    have ih := lookup_putF f g v r
    rw [show putF f v ((k, x) :: r) = (if k = f then (k, v) :: r else (k, x) :: putF f v r) from rfl]
    by_cases hk : k = f
    · rw [if_pos hk]
      by_cases h : g = k
      · have hb : (g == k) = true := beq_iff_eq.mpr h
        simp only [List.lookup, hb, if_pos (h.trans hk)]
      · have hb : (g == k) = false := beq_eq_false_iff_ne.mpr h
        simp only [List.lookup, hb, if_neg (fun e : g = f => h (e.trans hk.symm))]
    · rw [if_neg hk]
      by_cases h : g = k
      · have hb : (g == k) = true := beq_iff_eq.mpr h
        simp only [List.lookup, hb, if_neg (fun e : g = f => hk (h.symm.trans e))]
      · have hb : (g == k) = false := beq_eq_false_iff_ne.mpr h
        simp only [List.lookup, hb]
        exact ih
theorem keys_putF (f : Str) (v : V) : ∀ fs : List (Str × V), f ∈ (putF f v fs).map (·.1) ∧ ∀ g, g ∈ fs.map (·.1) → g ∈ (putF f v fs).map (·.1)
  | [] => ⟨by simp [putF], fun g h => by simp at h⟩
  | (k, x) :: r => by
    obtain ⟨i1, i2⟩ := keys_putF f v r
    rw [show putF f v ((k, x) :: r) = (if k = f then (k, v) :: r else (k, x) :: putF f v r) from rfl]
    by_cases hk : k = f
    · rw [if_pos hk]
      subst hk
      exact ⟨by simp, fun g h => by simpa using h⟩
    · rw [if_neg hk]
      refine ⟨?_, fun g h => ?_⟩
      · rw [List.map_cons]
        exact List.mem_cons_of_mem _ i1
      · rw [List.map_cons] at h ⊢
        rcases List.mem_cons.mp h with e | e
        · exact List.mem_cons.mpr (.inl e)
        · exact List.mem_cons_of_mem _ (i2 g e)
theorem length_putF (f : Str) (v : V) : ∀ fs : List (Str × V), (putF f v fs).length ≤ fs.length + 1
  | [] => by simp [putF]
  | (k, x) :: r => by
    have ih := length_putF f v r
    rw [show putF f v ((k, x) :: r) = (if k = f then (k, v) :: r else (k, x) :: putF f v r) from rfl]
    by_cases hk : k = f
    · rw [if_pos hk, List.length_cons, List.length_cons]; omega
    · rw [if_neg hk, List.length_cons, List.length_cons]; omega
theorem RelO.some_of {v : V} {o : Option Value} (r : RelO (some v) o) : ∃ u, o = some u ∧ RelV v u := by
  cases o with
  | none => exact (show False from r).elim
  | some u => exact ⟨u, rfl, r⟩
theorem RelO.none_of {o : Option Value} (r : RelO none o) : o = none := by
  cases o with
  | none => rfl
  | some u => exact (show False from r).elim
theorem handed_of {v : V} {u : Value} (r : RelV v u) : PySem.W.handedIn u = true := by
  cases v with
  | non => cases (show u = Value.none from r); rfl
  | bl b => cases (show u = Value.bool b from r); rfl
  | int i => obtain ⟨t, e⟩ := (show ∃ t, u = Value.int i t from r); cases e; rfl
  | str x => obtain ⟨t, e⟩ := (show ∃ t, u = Value.str x t from r); cases e; rfl
  | byt b => obtain ⟨t, e⟩ := (show ∃ t, u = Value.bytes b t from r); cases e; rfl
  | flt b => obtain ⟨t, e⟩ := (show ∃ t, u = Value.float b t from r); cases e; rfl
  | ref a => cases (show u = Value.ref a from r); rfl
  | ty n => cases (show u = Value.type n from r); rfl
section
variable {P : Program} {w : World} {H H' : Hp} {h h' : Heap} {a C dx : Addr} {fs fs' : List (Str × V)}
theorem ins_get (hok : HOk P w H h) (e : H a = some (.ins C dx fs)) : ∃ mA, ObjM h a dx C mA ∧ (∀ f, RelO (fs.lookup f) (mA f)) ∧ PySem.Within mA (fs.map (·.1)) ∧ fs.length ≤ 1000 ∧ H dx = some (.own a) := by
  obtain ⟨d, z, ne, ob, mA, n, r, q⟩ := (show ObjOk P w H h a (.ins C dx fs) from hok a _ e)
  exact ⟨mA, ⟨ob, n, ne⟩, r, q, z, d⟩
end
structure Cls (K : PySem.W.Frag) (C : Addr) : Prop where
  pg : PySem.W.plainGet K C Str.empty = true
  hd : PySem.W.hasDictIn K C = true
  po : PySem.W.plainOver K C = true
  sa : PySem.W.findIn K (.ref C) "__setattr__" = some (some (.builtin "object.__setattr__"))
theorem Cls.get {K : PySem.W.Frag} {C : Addr} (c : Cls K C) (f : Str) : PySem.W.plainGet K C f = true := c.pg
def NoAttr (K : PySem.W.Frag) (C : Addr) (f : Str) : Prop := PySem.W.findIn K (.ref C) f = some none
theorem NoAttr.taker {K : PySem.W.Frag} {C : Addr} {f : Str} (n : NoAttr K C f) : PySem.W.takerIn K C f = some none := by
  unfold PySem.W.takerIn
  rw [show PySem.W.findIn K (.ref C) f = some none from n]
  rfl
structure Meth (K : PySem.W.Frag) (C : Addr) (m : Str) (f : Addr) : Prop where
  at_ : PySem.W.findIn K (.ref C) m = some (some (.ref f))
  fn : PySem.W.isFn K (.ref f) = true
  kp : PySem.W.keepIn K (.ref f) = true
section
variable {X : Cx} {pins : List (Addr × Obj)} {σ : St} {H : Hp} {s : Shared} {a C dx : Addr} {fs : List (Str × V)} {f : Str} {v : V} {A : Around} {E : Value → Shared → Prop}
theorem getattr_ok {b : Bool} {Q : Value → Shared → Prop} (I : Inv X pins σ H s) (e : H a = some (.ins C dx fs)) (c : Cls X.K C) (n : NoAttr X.K C f) (l : fs.lookup f = some v)
    (h : ∀ u s', Inv X pins σ H s' → RelV v u → Q u s') : wpAny (model X.prog X.w) A (getAttr (.ref a) f b) Q E s := by
  obtain ⟨mA, O, r, _, _, _⟩ := ins_get I.hok e
  obtain ⟨u, hu, ru⟩ := RelO.some_of (v := v) (o := mA f) (by rw [← l]; exact r f)
  exact get_map I.kIn O (c.get f) c.hd n hu (handed_of ru) (h u _ (I.tok _) ru)
theorem getmeth_ok {m : Str} {g : Addr} {pl : Sem Bool} {Q : Value × List Value → Shared → Prop} (I : Inv X pins σ H s) (e : H a = some (.ins C dx fs)) (c : Cls X.K C) (k : Meth X.K C m g) (l : fs.lookup m = none)
    (h : Q (.ref g, [.ref a]) s) : wpAny (model X.prog X.w) A (getMethod (.ref a) m pl) Q E s := by
  obtain ⟨mA, O, r, _, _, _⟩ := ins_get I.hok e
  have hn : mA m = none := RelO.none_of (by rw [← l]; exact r m)
  exact get_meth I.kIn O (c.get m) k.at_ k.fn hn h
theorem setattr_ok {y : V} {u : Value} {Q : Unit → Shared → Prop} (I : Inv X pins σ H s) (e : H a = some (.ins C dx fs)) (c : Cls X.K C) (n : NoAttr X.K C f) (hl : fs.length < 1000) (ry : RelV y u)
    (h : ∀ s', Inv X pins σ (upd H a (.ins C dx (putF f y fs))) s' → Q () s') : wpAny (model X.prog X.w) A (setAttr (.ref a) f u) Q E s := by
  obtain ⟨mA, O, r, wi, _, ho⟩ := ins_get I.hok e
  have hz : (fs.map (·.1)).length ≤ sizeLine := by rw [List.length_map, sizeLine_eq]; omega
  refine set_map I.kIn O c.sa c.po n.taker c.hd wi hz fun h' O' sb => h _ ?_
  have hd : ∃ o, h'.get? dx = some o := let ⟨o, _, _, e', _⟩ := O'.ns; ⟨o, e'⟩
  refine I.write (x := a) (e := dx) (by rw [e]; exact True.intro) (.inr ho) (fun b q hb z => (sb.2 b hb).trans z) hd ?_
  refine ⟨by rw [upd_ne O.ne]; exact ho, ?_, O.ne, O'.obj, _, O'.ns, fun g => ?_, fun g hg => ?_⟩
  · have := length_putF f y fs; omega
  · show RelO ((putF f y fs).lookup g) (if g = f then some u else mA g)
    rw [lookup_putF]
    by_cases q : g = f
    · rw [if_pos q, if_pos q]; exact ry
    · rw [if_neg q, if_neg q]; exact r g
  · by_cases q : g = f
    · rw [q]; exact (keys_putF f y fs).1
    · refine (keys_putF f y fs).2 g (wi g fun z => hg ?_)
      show (if g = f then some u else mA g) = none
      rw [if_neg q]; exact z
theorem Inv.made (I : Inv X pins σ H s) : Inv X pins σ (upd (upd H s.heap.objs.size (.own (s.heap.objs.size + 1))) (s.heap.objs.size + 1) (.ins C s.heap.objs.size []))
    { s with heap := (s.heap.push PySem.W.emptyDict).push (PySem.W.instObj C s.heap.objs.size) } := by
  have e1 : (s.heap.push PySem.W.emptyDict).get? s.heap.objs.size = some PySem.W.emptyDict := Heap.get?_push_size s.heap rfl
  have e2 : ((s.heap.push PySem.W.emptyDict).push (PySem.W.instObj C s.heap.objs.size)).get? (s.heap.objs.size + 1) = some (PySem.W.instObj C s.heap.objs.size) := by
    have := Heap.get?_push_size (s.heap.push PySem.W.emptyDict) (o := PySem.W.instObj C s.heap.objs.size) rfl
    rwa [Heap.size_push] at this
  have e3 : (s.heap.push PySem.W.emptyDict).Ns s.heap.objs.size (fun _ => none) := ⟨PySem.W.emptyDict, #[], _, e1, rfl, (fun e he => absurd he (by simp)), fun _ => rfl⟩
  have I1 := I.laid (a := s.heap.objs.size) (o := .own (s.heap.objs.size + 1)) (h' := s.heap.push PySem.W.emptyDict) (t' := s.toks) (fun b u q => Heap.get?_push_of_some _ q) (Nat.le_refl _) ⟨_, e1⟩
  refine I1.laid (a := s.heap.objs.size + 1) (o := .ins C s.heap.objs.size []) (t' := s.toks) (fun b u q => Heap.get?_push_of_some _ q) (Nat.le_of_eq (Heap.size_push _ _)) ?_
  have ne : s.heap.objs.size ≠ s.heap.objs.size + 1 := Nat.ne_of_lt (Nat.lt_succ_self _)
  refine ⟨by rw [upd_ne ne, upd_same], Nat.zero_le _, ne, e2, fun _ => none, (Heap.Ns1.of_empty e3).at fun o q => Heap.get?_push_of_some _ q, fun _ => True.intro, fun y hy => absurd rfl hy⟩
theorem attr_of {prog : Program} {w : World} {env : Env} {e : Expr} {f : Str} {pos : Pos} {s : Shared} {Q : Value → Shared → Prop} (hb : attributeBase e f env (eval e env) = eval e env)
    (h : wpAny (model prog w) A (eval e env) (fun o s₁ => wpAny (model prog w) A (getAttr o f true) Q E s₁) E s) : wpAny (model prog w) A (eval (.Attribute e f pos) env) Q E s :=
  Attribute_any_ h (by rw [arm_eval_Attribute, hb])
end
def tFld (K : PySem.W.Frag) (ta : TE) (f : Str) : TE := fun σ H Q => ta σ H fun x H1 => ∃ a C dx fs v, x = .ref a ∧ H1 a = some (.ins C dx fs) ∧ Cls K C ∧ NoAttr K C f ∧ fs.lookup f = some v ∧ Q v H1
def sFld (K : PySem.W.Frag) (ta tv : TE) (f : Str) : TS := fun D σ H => tv σ H fun y H1 => ta σ H1 fun x H2 => ∃ a C dx fs, x = .ref a ∧ H2 a = some (.ins C dx fs) ∧ Cls K C ∧ NoAttr K C f ∧ fs.length < 1000 ∧
  D.nx σ (upd H2 a (.ins C dx (putF f y fs)))
section
variable {X : Cx} {o e value : Expr} {f : Str} {pos pos' tpos : Pos} {ta tv : TE}
theorem pe_fld (he : PE X e ta) (hb : attributeBase e f X.env (eval e X.env) = eval e X.env) : PE X (.Attribute e f pos) (tFld X.K ta f) := by
  intro pins s σ H Q I h
  refine attr_of hb (thn (he pins s σ H _ I h) fun u s1 ⟨x, H1, I1, rx, a, C, dx, fs, v, ex, ea, c, n, l, q⟩ => ?_)
  subst ex
  obtain rfl : u = Value.ref a := rx
  exact getattr_ok I1 ea c n l fun u' s2 I2 ru => ⟨v, H1, I2, ru, q⟩
theorem ps_fld (ha : PE X o ta) (hv : PE X value tv) (hs : swapsWith value (some (.Attribute o f pos')) pos.line X.env = pure false) : PS X (.Assign [.Attribute o f pos'] value pos) (sFld X.K ta tv f) := by
  intro pins s σ H D I h
  refine plainObj_wpAny_Assign_Attribute (thn (hv pins s σ H _ I h) fun u s1 ⟨y, H1, I1, ry, q⟩ => thn (ha pins s1 σ H1 _ I1 q) fun ov s2 ⟨x, H2, I2, rx, a, C, dx, fs, ex, ea, c, n, l, q2⟩ => ?_) hs
  subst ex
  obtain rfl : ov = Value.ref a := rx
  exact setattr_ok I2 ea c n l ry fun s3 I3 => ⟨σ, _, I3, q2⟩
end
section
variable {X : Cx} {pins : List (Addr × Obj)} {σ : St} {H : Hp} {s : Shared} {A : Around} {E : Value → Shared → Prop} {Q : Value → Shared → Prop} {c : Value} {b : Bool}
inductive TyOf (K : PySem.W.Frag) (H : Hp) : V → Value → Prop where
  | non : TyOf K H .non (.type "NoneType")
  | bl (x : Bool) : TyOf K H (.bl x) (.type "bool")
  | int (i : Int) : TyOf K H (.int i) (.type "int")
  | str (x : Str) : TyOf K H (.str x) (.type "str")
  | flt (x : UInt64) : TyOf K H (.flt x) (.type "float")
  | lst {a : Addr} {xs : List V} (e : H a = some (.lst xs)) : TyOf K H (.ref a) (.type "list")
  | frz {a : Addr} {o : Obj} {xs : List V} (e : H a = some (.frz o (.lst xs))) : TyOf K H (.ref a) (.type "list")
  | tup {a : Addr} {xs : List V} (e : H a = some (.tup xs)) : TyOf K H (.ref a) (.type "tuple")
  | dK {a : Addr} {kvs : List (Key × V)} (e : H a = some (.dK kvs)) : TyOf K H (.ref a) (.type "dict")
  | dT {a : Addr} {kvs : List (List Key × V)} (e : H a = some (.dT kvs)) : TyOf K H (.ref a) (.type "dict")
  | ins {a C dx : Addr} {fs : List (Str × V)} (e : H a = some (.ins C dx fs)) (cl : Cls K C) (ha : PySem.W.findIn K (.ref C) "__class__" = some (some (.builtin "object.__class__")))
      (hn : PySem.W.specialIn K (.builtin "object.__class__") "__get__" = some (some (.builtin "getset_descriptor.__get__"))) (htk : PySem.W.takesIn K (.builtin "object.__class__") = some true)
      (hm : PySem.W.mroIn K C (.type "object") = some true) : TyOf K H (.ref a) (.ref C)
theorem isinst_ok {x : V} {u t : Value} (I : Inv X pins σ H s) (rx : RelV x u) (ty : TyOf X.K H x t) (e : PySem.W.kitOne X.K t c = some b) (h : ∀ tk, Q (.bool b) { s with toks := tk }) :
    wpAny (model X.prog X.w) A (call (.builtin "isinstance") [u, c]) Q E s := by
  cases ty with
  | non => cases (show u = Value.none from rx); exact PySem.W.kia_one PySem.W.kitx_none I.kIn True.intro e (fun z => nomatch z) h
  | bl y => cases (show u = Value.bool y from rx); exact PySem.W.kia_one PySem.W.kitx_bool I.kIn True.intro e (fun z => nomatch z) h
  | int i => obtain ⟨t, q⟩ := (show ∃ t, u = Value.int i t from rx); cases q; exact PySem.W.kia_one PySem.W.kitx_int I.kIn True.intro e (fun z => nomatch z) h
  | str y => obtain ⟨t, q⟩ := (show ∃ t, u = Value.str y t from rx); cases q; exact PySem.W.kia_one PySem.W.kitx_str I.kIn True.intro e (fun z => nomatch z) h
  | flt y => obtain ⟨t, q⟩ := (show ∃ t, u = Value.float y t from rx); cases q; exact PySem.W.kia_one PySem.W.kitx_float I.kIn True.intro e (fun z => nomatch z) h
  | @lst a xs ea =>
    cases (show u = Value.ref a from rx)
    obtain ⟨_, _, n, _, h1⟩ := (show ObjOk X.prog X.w H s.heap a (.lst xs) from I.hok a _ ea)
    exact PySem.W.kia_one PySem.W.kitx_list I.kIn ⟨_, h1, rfl⟩ e (fun z => nomatch z) h
  | @frz a ob xs ea =>
    cases (show u = Value.ref a from rx)
    obtain ⟨_, _, _, n, _, h1⟩ := (show ObjOk X.prog X.w H s.heap a (.frz ob (.lst xs)) from I.hok a _ ea)
    exact PySem.W.kia_one PySem.W.kitx_list I.kIn ⟨_, h1, rfl⟩ e (fun z => nomatch z) h
  | @tup a xs ea =>
    cases (show u = Value.ref a from rx)
    obtain ⟨_, _, _, p⟩ := (show ObjOk X.prog X.w H s.heap a (.tup xs) from I.hok a _ ea)
    obtain ⟨o, h1, h2, _⟩ := p
    exact PySem.W.kia_one PySem.W.kitx_tuple I.kIn ⟨o, h1, h2⟩ e (fun z => nomatch z) h
  | @dK a kvs ea =>
    cases (show u = Value.ref a from rx)
    obtain ⟨_, _, vs, _, p⟩ := (show ObjOk X.prog X.w H s.heap a (.dK kvs) from I.hok a _ ea)
    obtain ⟨o, es, ep, h1, h2, _⟩ := p
    exact PySem.W.kia_one PySem.W.kitx_dict I.kIn ⟨o, h1, h2.1⟩ e (fun z => nomatch z) h
  | @dT a kvs ea =>
    cases (show u = Value.ref a from rx)
    obtain ⟨_, _, xs, _, o, es, ep, h1, h2, _⟩ := (show ObjOk X.prog X.w H s.heap a (.dT kvs) from I.hok a _ ea)
    exact PySem.W.kia_one PySem.W.kitx_dict I.kIn ⟨o, h1, h2.1⟩ e (fun z => nomatch z) h
  | @ins a C dx fs ea cl ha hn htk hm =>
    cases (show u = Value.ref a from rx)
    obtain ⟨mA, O, _⟩ := ins_get I.hok ea
    obtain ⟨od, J, _⟩ := O.look
    exact PySem.W.kia_one (PySem.W.kitx_own (cl.get _) cl.hd ha hn htk hm) I.kIn J e (fun z => nomatch z) h
end
end L2
namespace L2
open PySem PySem.Spec PyProof.Rows
structure Room (k : Nat) (A : Around) : Prop where
  hd : A.handled = none
  dp : A.depth + 3 * k + 5 < recursionLimit
  un : A.units + 16 * k + 200 < cLine
theorem Room.mono {j k : Nat} {A : Around} (r : Room k A) (h : j ≤ k) : Room j A := ⟨r.hd, by have := r.dp; omega, by have := r.un; omega⟩
theorem Room.deeper {k : Nat} {A : Around} (r : Room (k + 1) A) (env : Env) : Room k (A.deeper env) :=
  ⟨r.hd, by have := r.dp; show A.depth + 1 + 3 * k + 5 < _; omega, by have := r.un; show A.units + 3 + 16 * k + 200 < _; omega⟩
theorem make_depth {A : Around} {C : Addr} {us : List Value} {kw : List (Str × Value)} : (A.under (.builtin "type.__call__" ⟨.ref C :: us, kw⟩)).depth = A.depth + 1 := by
  first | rfl | simp [Around.under, Code.weight, Code.isCreation, Code.isGuard, Code.isCaller, Code.frames, Code.isFrame, guardIds]
theorem make_units {A : Around} {C : Addr} {us : List Value} {kw : List (Str × Value)} : (A.under (.builtin "type.__call__" ⟨.ref C :: us, kw⟩)).units = A.units + 1 := by
  first | rfl | simp [Around.under, Code.cUnits, Code.frames, Code.isFrame]
theorem Room.make {k : Nat} {A : Around} (r : Room (k + 1) A) (C : Addr) (us : List Value) (kw : List (Str × Value)) : Room k (A.under (.builtin "type.__call__" ⟨.ref C :: us, kw⟩)) :=
  ⟨r.hd, by have := r.dp; rw [make_depth]; omega, by have := r.un; rw [make_units]; omega⟩
theorem Room.depth {k : Nat} {A : Around} (r : Room k A) : A.depth < recursionLimit := by have := r.dp; omega
theorem Room.units {k : Nat} {A : Around} (r : Room k A) : A.units + 64 < cLine := by have := r.un; omega
theorem Room.units0 {k : Nat} {A : Around} (r : Room k A) : A.units < cLine := by have := r.un; omega
def tNil : TA := fun _ H Q => Q [] H
def tCons (ta : TE) (tr : TA) : TA := fun σ H Q => ta σ H fun x H1 => tr σ H1 fun xs H2 => Q (x :: xs) H2
section
variable {X : Cx} {e : Expr} {es : List Expr} {te : TE} {t : TA} {pos : Pos}
theorem pa_nil : PA X [] tNil := fun _ _ _ _ H Q I h => Calls.spliced_nil ⟨[], H, I, .nil, h⟩
theorem pa_cons (ha : PE X e te) (hr : PA X es t) (hs : starEach (e :: es) X.env = (false, eval e X.env) :: starEach es X.env := by rfl) : PA X (e :: es) (tCons te t) := by
  intro pos pins s σ H Q I h
  rw [hs]
  show wpAny _ _ (spliced ((false, eval e X.env) :: backTo pos (starEach es X.env))) _ _ s
  refine Calls.spliced_cons (thn (ha pins s σ H _ I h) fun u s1 ⟨x, H1, I1, r1, q1⟩ => ?_)
  exact thn (hr pos pins s1 σ H1 _ I1 q1) fun us s2 ⟨xs, H2, I2, r2, q2⟩ => ⟨x :: xs, H2, I2, .cons r1 r2, q2⟩
def tTup (t : TA) : TE := fun σ H Q => t σ H fun xs H1 => xs.length ≤ sizeLine ∧ ∀ p, H1 p = none → Q (.ref p) (upd H1 p (.tup xs))
def tLst (t : TA) : TE := fun σ H Q => t σ H fun xs H1 => xs.length ≤ sizeLine ∧ ∀ p, H1 p = none → Q (.ref p) (upd H1 p (.lst xs))
theorem pe_tup {x1} (h : PA X es t) : PE X (.Tuple es x1 pos) (tTup t) := by
  intro pins s σ H Q I hq
  refine wpAny_Tuple_spliced (thn (h pos pins s σ H _ I hq) fun us s1 ⟨xs, H1, I1, r, z, q⟩ => ⟨by rw [← r.length]; exact z, ?_⟩)
  have hf : H1 s1.heap.objs.size = none := I1.hok.fresh (Nat.le_refl _)
  refine ⟨.ref s1.heap.objs.size, upd H1 s1.heap.objs.size (.tup xs), I1.laid (t' := s1.toks) (fun b u e => Heap.get?_push_of_some _ e) (Nat.le_refl _) ?_, rfl, q _ hf⟩
  exact ⟨z, us, r, ⟨_, Heap.get?_push_size _ rfl, rfl, _, rfl⟩⟩
theorem pe_lst (h : PA X es t) : PE X (.List es pos) (tLst t) := by
  intro pins s σ H Q I hq
  refine wpAny_List_spliced (thn (h pos pins s σ H _ I hq) fun us s1 ⟨xs, H1, I1, r, z, q⟩ => ⟨by rw [← r.length]; exact z, ?_⟩)
  have hf : H1 s1.heap.objs.size = none := I1.hok.fresh (Nat.le_refl _)
  refine ⟨.ref s1.heap.objs.size, upd H1 s1.heap.objs.size (.lst xs), I1.laid (t' := s1.toks) (fun b u e => Heap.get?_push_of_some _ e) (Nat.le_refl _) ?_, rfl, q _ hf⟩
  exact ⟨z, us, 0, r, Heap.get?_push_size _ rfl⟩
end
abbrev Sp := List V → Hp → VK → XK → Prop
abbrev CXT := List Env → Hp → Shared → XK → Value → Shared → Prop
structure Env0 (P : Program) (w : World) (K : PySem.W.Frag) (mg : Str → Option Value) (base : Heap) (A : Around) (outer : List Env) (s : Shared) (H : Hp) : Prop where
  frames : A.frames = some outer
  mod : Mod K mg base
  bs : ∀ b o, base.get? b = some o → s.heap.get? b = some o ∧ H b = none
  bsz : base.objs.size ≤ s.heap.objs.size
  funs : s.heap.FunFrames base outer
  frf : ∀ b ∈ frs outer, H b = none
  hok : HOk P w H s.heap
  bare : AllBare s.gens
def CE (outer : List Env) (P : Program) (w : World) (H : Hp) (s : Shared) (Q : VK) (u : Value) (s' : Shared) : Prop :=
  ∃ v H', s'.os = s.os ∧ AllBare s'.gens ∧ Un (frs outer) [] H H' s.heap s'.heap ∧ HOk P w H' s'.heap ∧ RelV v u ∧ Q v H'
def CR (CX : CXT) (outer : List Env) (P : Program) (w : World) (H : Hp) (s : Shared) (Q : VK) (E : XK) (r : Result) (s' : Shared) : Prop :=
  match r with
  | .ok (.ret u) => CE outer P w H s Q u s'
  | .ok _ => False
  | .error e => CX outer H s E e s'
structure FnOk (P : Program) (w : World) (K : PySem.W.Frag) (mg : Str → Option Value) (base : Heap) (CX : CXT) (k : Nat) (f : Addr) (fd : FuncData) (ps : List Str) (sp : Sp) : Prop where
  len : ∀ vs H Q E, sp vs H Q E → vs.length = ps.length
  run : ∀ (A : Around) (outer : List Env) (s : Shared) (H : Hp) (args : Args) (us : List Value) (vs : List V) (Q : VK) (E : XK), Room k A → Env0 P w K mg base A outer s H → BindsTo s fd args (ps.zip us) → Vals vs us → sp vs H Q E →
    codeAny (model P w) A (.call (.ref f) args) (CR CX outer P w H s Q E) s
theorem Env0.make {P : Program} {w : World} {K : PySem.W.Frag} {mg : Str → Option Value} {base : Heap} {A : Around} {outer : List Env} {s : Shared} {H : Hp} (e : Env0 P w K mg base A outer s H) (C : Addr) (us : List Value) (kw : List (Str × Value)) :
    Env0 P w K mg base (A.under (.builtin "type.__call__" ⟨.ref C :: us, kw⟩)) outer s H := ⟨by first | exact e.frames | (simpa [Around.under, Code.envs, Code.isFrame, pushEnvs] using e.frames), e.mod, e.bs, e.bsz, e.funs, e.frf, e.hok, e.bare⟩
section
variable {X : Cx} {pins : List (Addr × Obj)} {σ : St} {H : Hp} {s s' : Shared}
theorem Inv.env0 (I : Inv X pins σ H s) : Env0 X.prog X.w X.K X.mg X.base X.A X.stack s H :=
  ⟨I.ok.frames, I.ok.mod, I.bs, Nat.le_trans I.ok.bsz I.sz, I.stack, I.stkFree, I.hok, I.bare⟩
theorem Inv.after {Q : VK} {u : Value} (I : Inv X pins σ H s) (h : CE X.stack X.prog X.w H s Q u s') : EP X pins σ Q u s' := by
  obtain ⟨v, H', os, bare, un, hok, r, q⟩ := h
  obtain ⟨hh, g, d, t, os'⟩ := s'
  obtain rfl : os' = s.os := os
  exact ⟨v, H', I.call (h' := hh) (g' := g) (d' := d) (t' := t) (ch := []) un hok bare (fun b z => absurd z (by simp)), r, q⟩
end
def tCall (sp : Sp) (dvs : List V) (E : XK) (t : TA) : TE := fun σ H Q => t σ H fun vs H1 => sp (vs ++ dvs) H1 Q E
def tMeth (C : Addr) (m : Str) (sp : Sp) (dvs : List V) (E : XK) (ta : TE) (t : TA) : TE := fun σ H Q => ta σ H fun x H1 => ∃ a dx fs, x = .ref a ∧ H1 a = some (.ins C dx fs) ∧ fs.lookup m = none ∧
  t σ H1 fun vs H2 => sp (x :: (vs ++ dvs)) H2 Q E
def tMake (C : Addr) (sp : Sp) (dvs : List V) (E : XK) (t : TA) : TE := fun σ H Q => t σ H fun vs H1 => ∀ x dx, H1 x = none → H1 dx = none → dx ≠ x →
  sp (.ref x :: (vs ++ dvs)) (upd (upd H1 dx (.own x)) x (.ins C dx [])) (fun v H2 => v = .non ∧ Q (.ref x) H2) E
def Binds (K : PySem.W.Frag) (fd : FuncData) (ps : List Str) (ds : List Value) : Prop :=
  ∀ (s : Shared) (us : List Value), K.In s.heap → (us ++ ds).length = ps.length → BindsTo s fd ⟨us, []⟩ (ps.zip (us ++ ds))
theorem Binds.all {K : PySem.W.Frag} {fd : FuncData} {ps : List Str} (h : ∀ us : List Value, us.length = ps.length → bindArgs fd ⟨us, []⟩ = pure (ps.zip us)) : Binds K fd ps [] := fun s us _ hl => by
  rw [List.append_nil] at hl ⊢
  exact .of_eq (h us hl)
def Passes (CX : CXT) (X : Cx) (E : XK) : Prop := ∀ (pins : List (Addr × Obj)) (σ : St) (H : Hp) (s : Shared) (e : Value) (s' : Shared), Inv X pins σ H s → CX X.stack H s E e s' → X.xe e s'
section
variable {X : Cx} {CX : CXT} {k : Nat} {f C : Addr} {fd : FuncData} {ps : List Str} {sp : Sp} {dvs : List V} {ds : List Value} {E : XK} {x m : Str} {p pos apos : Pos} {e o : Expr} {es : List Expr} {ta : TE} {t : TA}
theorem run_fn {pins : List (Addr × Obj)} {σ : St} {H : Hp} {s : Shared} {Q : VK} {us : List Value} {vs : List V} (F : FnOk X.prog X.w X.K X.mg X.base CX k f fd ps sp) (hr : Room k X.A) (hb : Binds X.K fd ps ds) (hd : Vals dvs ds) (hx : Passes CX X E)
    (I : Inv X pins σ H s) (r : Vals vs us) (h : sp (vs ++ dvs) H Q E) : wpAny (model X.prog X.w) X.A (call (.ref f) us) (EP X pins σ Q) X.xe s := by
  have r2 : Vals (vs ++ dvs) (us ++ ds) := r.append hd
  have hl : (us ++ ds).length = ps.length := by rw [← r2.length]; exact F.len _ _ _ _ h
  refine wpAny_call (codeAny_mono (F.run X.A X.stack s H ⟨us, []⟩ (us ++ ds) (vs ++ dvs) Q E hr I.env0 (hb s us I.kIn hl) r2 h) fun r s' hq => ?_)
  cases r with
  | error e => exact hx pins σ H s e s' I hq
  | ok fl =>
    cases fl with
    | ret u => exact I.after hq
    | next => exact False.elim hq
    | brk => exact False.elim hq
    | cont => exact False.elim hq
theorem pe_call (F : FnOk X.prog X.w X.K X.mg X.base CX k f fd ps sp) (hr : Room k X.A) (hg : Gl X x) (hm : X.mg x = some (.ref f)) (hk : PySem.W.keepIn X.K (.ref f) = true) (hb : Binds X.K fd ps ds) (hd : Vals dvs ds) (hx : Passes CX X E)
    (ha : PA X (e :: es) t) (hdb : (x == ("__debug__" : Str)) = false := by decide) (he : starEach (e :: es) X.env = (false, eval e X.env) :: starEach es X.env := by rfl) (hpl : (backTo pos (starEach es X.env)).any (·.1) = false := by rfl) :
    PE X (.Call (.Name x p) (e :: es) [] pos) (tCall sp dvs E t) := by
  intro pins s σ H Q I h
  refine wpAny_Call_Name_kw (ld_glob I hg hm ?_ hdb)
  refine PySem.W.callWith_K (h₀ := X.base) I.ok.mod.kin hk (thn (ha pos pins s σ H _ I h) fun us s1 ⟨vs, H1, I1, r, q⟩ => ⟨I1.kIn, ?_⟩) he hpl
  exact run_fn F hr hb hd hx I1 r q
theorem pe_meth {pl : Sem Bool} (he : PE X o ta) (c : Cls X.K C) (hm : Meth X.K C m f) (F : FnOk X.prog X.w X.K X.mg X.base CX k f fd ps sp) (hr : Room k X.A) (hb : Binds X.K fd ps ds) (hd : Vals dvs ds) (hx : Passes CX X E) (ha : PA X (e :: es) t)
    (hst : starEach (e :: es) X.env = (false, eval e X.env) :: starEach es X.env := by rfl) (hpl : (backTo pos (starEach es X.env)).any (·.1) = false := by rfl)
    (ht : eval (.Call (.Attribute o m apos) (e :: es) [] pos) X.env = (do
      let ov ← eval o X.env
      standAt apos.atName
      let (f, first) ← holding [ov] (getMethod ov m pl)
      callWith pos f first (backTo pos (starEach (e :: es) X.env)) (backToKw pos (keywordEach [] X.env))) := by rfl) :
    PE X (.Call (.Attribute o m apos) (e :: es) [] pos) (tMeth C m sp dvs E ta t) := by
  intro pins s σ H Q I h
  refine PySem.W.methodCall_KW (pl := pl) (thn (he pins s σ H _ I h) fun u s1 ⟨x, H1, I1, rx, a, dx, fs, ex, ea, l, q⟩ => ?_) ht
  subst ex
  obtain rfl : u = Value.ref a := rx
  refine getmeth_ok I1 ea c hm l ?_
  refine PySem.W.callWith_K (first := [.ref a]) (h₀ := X.base) I.ok.mod.kin hm.kp (thn (ha pos pins s1 σ H1 _ I1 q) fun us s2 ⟨vs, H2, I2, r, q2⟩ => ⟨I2.kIn, ?_⟩) hst hpl
  exact run_fn (us := .ref a :: us) (vs := .ref a :: vs) F hr hb hd hx I2 (.cons rfl r) q2
theorem pe_meth0 {pl : Sem Bool} (he : PE X o ta) (c : Cls X.K C) (hm : Meth X.K C m f) (F : FnOk X.prog X.w X.K X.mg X.base CX k f fd ps sp) (hr : Room k X.A) (hb : Binds X.K fd ps ds) (hd : Vals dvs ds) (hx : Passes CX X E)
    (ht : eval (.Call (.Attribute o m apos) [] [] pos) X.env = (do
      let ov ← eval o X.env
      standAt apos.atName
      let (f, first) ← holding [ov] (getMethod ov m pl)
      callWith pos f first (backTo pos (starEach [] X.env)) (backToKw pos (keywordEach [] X.env))) := by rfl) :
    PE X (.Call (.Attribute o m apos) [] [] pos) (tMeth C m sp dvs E ta tNil) := by
  intro pins s σ H Q I h
  refine PySem.W.methodCall_KW (pl := pl) (thn (he pins s σ H _ I h) fun u s1 ⟨x, H1, I1, rx, a, dx, fs, ex, ea, l, q⟩ => ?_) ht
  subst ex
  obtain rfl : u = Value.ref a := rx
  refine getmeth_ok I1 ea c hm l ?_
  exact PySem.W.callWith_K0 (first := [.ref a]) I1.kIn hm.kp (run_fn (us := [.ref a]) (vs := [.ref a]) F hr hb hd hx I1 (.cons rfl .nil) q)
structure Mk (K : PySem.W.Frag) (C f : Addr) : Prop where
  makes : PySem.W.makesIn K C = true
  init : PySem.W.findIn K (.ref C) "__init__" = some (some (.ref f))
  fn : PySem.W.isFn K (.ref f) = true
  kp : PySem.W.keepIn K (.ref C) = true
theorem run_make {pins : List (Addr × Obj)} {σ : St} {H : Hp} {s : Shared} {Q : VK} {us : List Value} {vs : List V} (M : Mk X.K C f) (F : FnOk X.prog X.w X.K X.mg X.base CX k f fd ps sp) (hr : Room (k + 1) X.A) (hb : Binds X.K fd ps ds) (hd : Vals dvs ds)
    (hx : Passes CX X E) (I : Inv X pins σ H s) (r : Vals vs us)
    (h : ∀ x dx, H x = none → H dx = none → dx ≠ x → sp (.ref x :: (vs ++ dvs)) (upd (upd H dx (.own x)) x (.ins C dx [])) (fun v H2 => v = .non ∧ Q (.ref x) H2) E) :
    wpAny (model X.prog X.w) X.A (call (.ref C) us) (EP X pins σ Q) X.xe s := by
  have hq := h (s.heap.objs.size + 1) s.heap.objs.size (I.hok.fresh (Nat.le_succ _)) (I.hok.fresh (Nat.le_refl _)) (Nat.ne_of_lt (Nat.lt_succ_self _))
  have I2 := Inv.made (C := C) I
  have r2 : Vals (V.ref (s.heap.objs.size + 1) :: (vs ++ dvs)) (Value.ref (s.heap.objs.size + 1) :: (us ++ ds)) := .cons rfl (r.append hd)
  have hl : (Value.ref (s.heap.objs.size + 1) :: us ++ ds).length = ps.length := by
    have e := r2.length
    rw [F.len _ _ _ _ hq] at e
    exact e.symm
  refine wpAny_call (make_map (f := f) I.kIn M.makes M.init (beq_iff_eq.mp M.fn) (codeAny_mono (F.run _ X.stack _ _ ⟨Value.ref (s.heap.objs.size + 1) :: us, []⟩ (Value.ref (s.heap.objs.size + 1) :: (us ++ ds)) _ _ E (hr.make C us [])
    (I2.env0.make C us []) (hb _ (Value.ref (s.heap.objs.size + 1) :: us) I2.kIn hl) r2 hq) fun r s' hq' => ?_))
  cases r with
  | error e => exact hx pins σ _ _ e s' I2 hq'
  | ok fl =>
    cases fl with
    | ret u =>
      obtain ⟨v, H', I3, rv, ev, q3⟩ := I2.after hq'
      subst ev
      exact ⟨rv, ⟨V.ref (s.heap.objs.size + 1), H', I3, rfl, q3⟩⟩
    | next => exact False.elim hq'
    | brk => exact False.elim hq'
    | cont => exact False.elim hq'
theorem pe_make (M : Mk X.K C f) (F : FnOk X.prog X.w X.K X.mg X.base CX k f fd ps sp) (hr : Room (k + 1) X.A) (hg : Gl X x) (hm : X.mg x = some (.ref C)) (hb : Binds X.K fd ps ds) (hd : Vals dvs ds) (hx : Passes CX X E)
    (ha : PA X (e :: es) t) (hdb : (x == ("__debug__" : Str)) = false := by decide) (he : starEach (e :: es) X.env = (false, eval e X.env) :: starEach es X.env := by rfl) (hpl : (backTo pos (starEach es X.env)).any (·.1) = false := by rfl) :
    PE X (.Call (.Name x p) (e :: es) [] pos) (tMake C sp dvs E t) := by
  intro pins s σ H Q I h
  refine wpAny_Call_Name_kw (ld_glob I hg hm ?_ hdb)
  refine PySem.W.callWith_K (h₀ := X.base) I.ok.mod.kin M.kp (thn (ha pos pins s σ H _ I h) fun us s1 ⟨vs, H1, I1, r, q⟩ => ⟨I1.kIn, ?_⟩) he hpl
  exact run_make M F hr hb hd hx I1 r q
end
section
variable {X : Cx} {CX : CXT} {k : Nat} {f C : Addr} {fd : FuncData} {ps ks : List Str} {sp : Sp} {E : XK} {x m : Str} {p pos apos kpos : Pos} {e o : Expr} {es : List Expr} {kws : List Keyword} {te ta : TE} {t tk : TA} {nm : Option Str}
variable {g : List Value → List Value → List Value} {gV : List V → List V → List V}
end
structure FnScope (N P : List Str) (sc : Scope) : Prop where
  kind : sc.kind = .function
  co : sc.isCoroutine = false
  gen : sc.isGenerator = false
  nd : N.Nodup
  pre : N.take P.length = P
  par : ∀ x ∈ P, sc.names.lookup x = some .local ∨ sc.names.lookup x = some .cell
  nofree : ∀ y ∈ sc.names, y.2 ≠ .free
theorem bindL_out {kindOf : Str → Option NameKind} {x : Str} : ∀ {binds : List (Str × Value)} {m : Str → Option Value}, (∀ v, (x, v) ∉ binds) → bindL kindOf binds m x = m x
  | [], _, _ => rfl
  | (n, v) :: r, m, h => by
    unfold bindL
    rw [bindL_out fun w hw => h w (List.mem_cons_of_mem _ hw)]
    split
    · have : x ≠ n := by rintro rfl; exact h v List.mem_cons_self
      simp [this]
    · rfl
theorem bindC_out {kindOf : Str → Option NameKind} {x : Str} : ∀ {binds : List (Str × Value)} {m : Str → Option Value}, (∀ v, (x, v) ∉ binds) → bindC kindOf binds m x = m x
  | [], _, _ => rfl
  | (n, v) :: r, m, h => by
    unfold bindC
    rw [bindC_out fun w hw => h w (List.mem_cons_of_mem _ hw)]
    split
    · rfl
    · have : x ≠ n := by rintro rfl; exact h v List.mem_cons_self
      simp [this]
theorem bindL_get {kindOf : Str → Option NameKind} {x : Str} {v : Value} : ∀ {P : List Str} {vs : List Value} {i : Nat} {m : Str → Option Value}, P.Nodup → P[i]? = some x → vs[i]? = some v → kindOf x = some .local →
    bindL kindOf (P.zip vs) m x = some v
  | [], _, _, _, _, h, _, _ => by simp at h
  | _ :: _, [], _, _, _, _, h, _ => by simp at h
  | p :: P, w :: vs, 0, m, nd, h1, h2, hk => by
    simp at h1 h2; subst h1; subst h2
    show bindL kindOf ((p, w) :: P.zip vs) m p = _
    unfold bindL
    rw [bindL_out fun v hv => (List.nodup_cons.mp nd).1 (List.of_mem_zip hv).1, if_pos hk]
    simp
  | p :: P, w :: vs, i + 1, m, nd, h1, h2, hk => by
    show bindL kindOf ((p, w) :: P.zip vs) m x = _
    unfold bindL
    exact bindL_get (i := i) (List.nodup_cons.mp nd).2 (by simpa using h1) (by simpa using h2) hk
theorem bindC_get {kindOf : Str → Option NameKind} {x : Str} {v : Value} : ∀ {P : List Str} {vs : List Value} {i : Nat} {m : Str → Option Value}, P.Nodup → P[i]? = some x → vs[i]? = some v → kindOf x ≠ some .local →
    bindC kindOf (P.zip vs) m x = some v
  | [], _, _, _, _, h, _, _ => by simp at h
  | _ :: _, [], _, _, _, _, h, _ => by simp at h
  | p :: P, w :: vs, 0, m, nd, h1, h2, hk => by
    simp at h1 h2; subst h1; subst h2
    show bindC kindOf ((p, w) :: P.zip vs) m p = _
    unfold bindC
    rw [bindC_out fun v hv => (List.nodup_cons.mp nd).1 (List.of_mem_zip hv).1, if_neg hk]
    simp
  | p :: P, w :: vs, i + 1, m, nd, h1, h2, hk => by
    show bindC kindOf ((p, w) :: P.zip vs) m x = _
    unfold bindC
    exact bindC_get (i := i) (List.nodup_cons.mp nd).2 (by simpa using h1) (by simpa using h2) hk
def start (N : List Str) (vs : List V) : St := vs.map some ++ List.replicate (N.length - vs.length) none
def cxOf (CX : CXT) (P : Program) (w : World) (K : PySem.W.Frag) (mg : Str → Option Value) (base : Heap) (N : List Str) (qual : Str) (scope : Scope) (f : Addr) (cd : Value) (A : Around) (outer : List Env) (s : Shared) (H : Hp) (E : XK) : Cx where
  prog := P
  w := w
  K := K
  mg := mg
  base := base
  A := A.deeper (envOfC qual scope s.heap.objs.size f cd)
  N := N
  s₀ := s
  H₀ := H
  env := envOfC qual scope s.heap.objs.size f cd
  outer := outer
  stack := envOfC qual scope s.heap.objs.size f cd :: outer
  ex := []
  calm := true
  fn := fun _ => true
  pn := []
  xe := fun e s' => wpAny (model P w) (A.deeper (envOfC qual scope s.heap.objs.size f cd)) (leaving (envOfC qual scope s.heap.objs.size f cd) e) (fun _ s'' => CX outer H s E e s'') (fun e' s'' => CX outer H s E e' s'') s'
theorem cell_has {sc : Scope} {n : Nat} {x : Str} (h : sc.names.lookup x = some .cell) : ∃ c, (cellsFrom n sc.names []).lookup x = some c := by
  have q := PySem.W.cellsFrom_some sc.names n [] (.inl h)
  exact Option.isSome_iff_exists.mp q
theorem inv_start {CX : CXT} {P : Program} {w : World} {K : PySem.W.Frag} {mg : Str → Option Value} {base : Heap} {N ps : List Str} {qual : Str} {scope : Scope} {f : Addr} {cd : Value} {A : Around} {outer : List Env} {s s1 : Shared} {H : Hp} {E : XK} {us : List Value} {vs : List V}
    (S : FnScope N ps scope) (hd : A.handled = none) (e0 : Env0 P w K mg base A outer s H) (hl : vs.length = ps.length) (r : Vals vs us)
    (x : InCallC s s.heap.objs.size (bindL (envOfC qual scope s.heap.objs.size f cd).kindOf (ps.zip us) fun _ => none) (cellsFrom (s.heap.objs.size + 1) scope.names []) (bindC (envOfC qual scope s.heap.objs.size f cd).kindOf (ps.zip us) fun _ => none) s1) :
    Inv (cxOf CX P w K mg base N qual scope f cd A outer s H E) [] (start N vs) H s1 := by
  have hpl : ps.length ≤ N.length := by have := congrArg List.length S.pre; rw [List.length_take] at this; omega
  obtain ⟨h1, tk, rfl, hk⟩ := x.done
  have noA : ∀ b : Addr, b ∉ (cxOf CX P w K mg base N qual scope f cd A outer s H E).ex := fun b z => absurd (show b ∈ ([] : List Addr) from z) (by simp)
  refine ⟨⟨e0.mod, S.kind, rfl, rfl, Nat.le_refl _, fun y z c h1 h2 => ?_, fun y hy => ?_, fun y c _ h => ?_, fun _ => hd, Around.frames_deeper e0.frames, .inr ⟨rfl, rfl⟩, fun b z => absurd z (noA b), e0.bs, e0.bsz, fun b _ _ => noA b, fun b z => absurd z (noA b), e0.funs, e0.frf⟩,
    rfl, e0.bare, Un.kept hk, ⟨_, x.toInCall.ns, fun i y v h1 h2 h3 => ?_⟩, fun y c h => ⟨_, x.cell y c h⟩, e0.hok.fresh (Nat.le_refl _), fun y c h => ?_, fun p hp => absurd (show p ∈ ([] : List (Addr × Obj)) from hp) (by simp), e0.hok.kept hk, ?_⟩
  · exact name_of_addr x.apart (PySem.mem_of_lookup h1) (PySem.mem_of_lookup h2)
  · have hy : scope.names.lookup y = some .cell ∨ scope.names.lookup y = some .free := hy
    rcases hy with hy | hy
    · exact cell_has hy
    · exact absurd rfl (S.nofree _ (PySem.mem_of_lookup hy))
  · exact Nat.le_of_lt (x.above y c (PySem.mem_of_lookup h))
  · have hi : i < vs.length := by
      unfold start at h2
      by_cases hi : i < vs.length
      · exact hi
      · rw [List.getElem?_append_right (by simpa using hi)] at h2
        rw [List.getElem?_replicate] at h2
        split at h2 <;> cases h2
    have ha : vs[i]? = some v := by
      unfold start at h2
      rw [List.getElem?_append_left (by simpa using hi), List.getElem?_map] at h2
      cases e : vs[i]? with
      | none => rw [e] at h2; cases h2
      | some a => rw [e] at h2; cases h2; rfl
    obtain ⟨u, hu, rv⟩ := r.get ha
    have hp : ps[i]? = some y := by
      rw [← S.pre, List.getElem?_take_of_lt (by omega)]; exact h1
    have ndP : ps.Nodup := by rw [← S.pre]; exact S.nd.sublist (List.take_sublist _ _)
    refine ⟨u, rv, ?_⟩
    rcases S.par y (List.mem_of_getElem? hp) with k | k
    · exact .inl ⟨k, bindL_get ndP hp hu k⟩
    · obtain ⟨c, e⟩ := cell_has (n := s.heap.objs.size + 1) k
      refine .inr ⟨.inl k, c, e, ?_⟩
      have q := x.cell y c e
      rw [bindC_get ndP hp hu (by show scope.names.lookup y ≠ _; rw [k]; decide)] at q
      exact q
  · exact e0.hok.fresh (Nat.le_of_lt (x.above y c (PySem.mem_of_lookup h)))
  · unfold start
    show _ = N.length
    rw [List.length_append, List.length_map, List.length_replicate]
    omega
theorem fn_of {CX : CXT} {P : Program} {w : World} {K : PySem.W.Frag} {mg : Str → Option Value} {base : Heap} {k : Nat} {f : Addr} {name qual : Str} {params : Arguments} {body : List Stmt} {scope : Scope} {dV kV doc pm cdv ct oc : Value} {an od : Option Addr}
    {osl : Array (Option Value)} {N ps : List Str} {sp : Sp} (lk : K.lookup f = some ⟨oc, od, .func (PySem.W.fnOf name qual params body scope dV kV doc pm an cdv ct), osl⟩) (hcd : PySem.W.codeIn K cdv qual = true) (S : FnScope N ps scope)
    (len : ∀ vs H Q E, sp vs H Q E → vs.length = ps.length)
    (hbody : ∀ (A : Around) (outer : List Env) (s : Shared) (H : Hp) (vs : List V) (Q : VK) (E : XK), Room k (A.deeper (envOfC qual scope s.heap.objs.size f cdv)) → sp vs H Q E →
      ∃ t, PSs (cxOf CX P w K mg base N qual scope f cdv A outer s H E) body t ∧ t { nx := fun _ H' => Q .non H', rt := Q } (start N vs) H) :
    FnOk P w K mg base CX (k + 1) f (PySem.W.fnOf name qual params body scope dV kV doc pm an cdv ct) ps sp := by
  refine ⟨len, fun A outer s H args us vs Q E hr e0 hb r hsp => ?_⟩
  have hl := len _ _ _ _ hsp
  have KX : K.In s.heap := e0.mod.kin.keeps fun b o e => (e0.bs b o e).1
  have lim : s.heap.NoLimit := e0.mod.nolimit.keeps fun b o e => (e0.bs b o e).1
  have hkind : ∀ y ∈ ps.zip us, scope.names.lookup y.1 = some .local ∨ (scope.names.lookup y.1 = some .cell ∧ ((cellsFrom (s.heap.objs.size + 1) scope.names []).lookup y.1).isSome = true) := fun ⟨n, v⟩ hy => by
    rcases S.par n (List.of_mem_zip hy).1 with q | q
    · exact .inl q
    · exact .inr ⟨q, PySem.W.cellsFrom_some _ _ _ (.inl q)⟩
  refine codeAny_call_function hr.depth (KX _ _ lk) rfl S.co S.gen rfl (PySem.W.codeRec_of KX hcd) (hb _ _ _ _ ?_)
  refine wpAny_newFunctionEnv_cells S.kind hkind fun env he s1 x => ?_
  subst he
  refine ⟨lim.keeps x.toInCall.keep, codeAny_func ?_⟩
  obtain ⟨t, ht, hq⟩ := hbody A outer s H vs Q E (hr.deeper _) hsp
  have I : Inv (cxOf CX P w K mg base N qual scope f cdv A outer s H E) [] (start N vs) H s1 := inv_start S hr.hd e0 hl r x
  refine wpAny_mono (ht [] s1 (start N vs) H _ I hq) (fun fl s' hs => ?_) fun e s' hs => hs
  have fin : ∀ {σ' : St} {H' : Hp} {v : V} {u : Value}, Inv (cxOf CX P w K mg base N qual scope f cdv A outer s H E) [] σ' H' s' → RelV v u → Q v H' → CE outer P w H s Q u s' :=
    fun {σ' H' v u} J rv q => ⟨v, H', J.os, J.bare, J.base, J.hok, rv, q⟩
  cases fl with
  | ret u =>
    obtain ⟨v, σ', H', J, rv, q⟩ := hs
    exact fin J rv q
  | next =>
    obtain ⟨σ', H', J, q⟩ := hs
    exact fin (v := V.non) (u := Value.none) J rfl q
  | brk =>
    obtain ⟨_, _, _, q⟩ := hs
    exact False.elim q
  | cont =>
    obtain ⟨_, _, _, q⟩ := hs
    exact False.elim q
end L2
namespace L2
open PySem PySem.Spec PyProof.Rows
section
variable {X : Cx} {x : Str} {p pos : Pos} {e : Expr} {es : List Expr} {t : TA} {id T : String} {r : List V → Hp → VK → Prop}
def tCB (r : List V → Hp → VK → Prop) (t : TA) : TE := fun σ H Q => t σ H fun vs H1 => r vs H1 Q
theorem pe_callB (hc : CallR X (.builtin id) r) (hg : Gl X x) (hm : X.mg x = none) (hv : bootBuiltins x = some (.builtin id)) (ha : PA X (e :: es) t) (hn : x ≠ "__name__" := by decide) (hdb : (x == ("__debug__" : Str)) = false := by decide)
    (he : starEach (e :: es) X.env = (false, eval e X.env) :: starEach es X.env := by rfl) (hpl : (backTo pos (starEach es X.env)).any (·.1) = false := by rfl) : PE X (.Call (.Name x p) (e :: es) [] pos) (tCB r t) := by
  intro pins s σ H Q I h
  refine wpAny_Call_Name_kw (ld_blt I hg hm hv ?_ hn hdb)
  exact PyProof.Rows.callWith_builtin1 (thn (ha pos pins s σ H _ I h) fun us s1 ⟨vs, H1, I1, r1, q1⟩ => hc pins s1 σ H1 vs us Q I1 r1 q1) he hpl
theorem pe_callTy (hc : CallR X (.type T) r) (hg : Gl X x) (hm : X.mg x = none) (hv : bootBuiltins x = some (.type T)) (ha : PA X (e :: es) t) (hn : x ≠ "__name__" := by decide) (hdb : (x == ("__debug__" : Str)) = false := by decide)
    (he : starEach (e :: es) X.env = (false, eval e X.env) :: starEach es X.env := by rfl) (hpl : (backTo pos (starEach es X.env)).any (·.1) = false := by rfl) : PE X (.Call (.Name x p) (e :: es) [] pos) (tCB r t) := by
  intro pins s σ H Q I h
  refine wpAny_Call_Name_kw (ld_blt I hg hm hv ?_ hn hdb)
  exact PyProof.Rows.callWith_type1 (thn (ha pos pins s σ H _ I h) fun us s1 ⟨vs, H1, I1, r1, q1⟩ => hc pins s1 σ H1 vs us Q I1 r1 q1) he hpl
end
end L2
namespace HT
open PySem PyProof.Rows
section
open PySem.SeqAt
open PySem.AutoSeq1 (wpAny_loadPart')
open PySem.MeetsSeq PySem.MeetsSeq2 PySem.MeetsSeq3
end
section
variable {prog : Program} {w : World} {A : Around} {E : Value → Shared → Prop} {s : Shared}
def sIx (n d : Nat) : Option Int → Nat
  | none => d
  | some v => if v < 0 then (v + (n : Int)).toNat else min v.toNat n
theorem sIx_nat (n d k : Nat) : sIx n d (some (k : Int)) = min k n := by
  show (if (k : Int) < 0 then ((k : Int) + (n : Int)).toNat else min (k : Int).toNat n) = min k n
  rw [if_neg (by omega), Int.toNat_natCast]
theorem sIx_le (n d : Nat) (hd : d ≤ n) (o : Option Int) : sIx n d o ≤ n := by
  cases o with
  | none => exact hd
  | some v =>
    show (if v < 0 then (v + (n : Int)).toNat else min v.toNat n) ≤ n
    by_cases hv : v < 0
    · rw [if_pos hv]; omega
    · rw [if_neg hv]; exact Nat.min_le_right _ _
theorem clip_eq (v : Int) (n d : Nat) : (if v < 0 then max (v + (n : Int)) 0 else min v (n : Int)) = ((sIx n d (some v) : Nat) : Int) := by
  show (if v < 0 then max (v + (n : Int)) 0 else min v (n : Int)) = (((if v < 0 then (v + (n : Int)).toNat else min v.toNat n) : Nat) : Int)
  by_cases hv : v < 0
  · simp only [if_pos hv]; omega
  · simp only [if_neg hv]; omega
theorem adjust_gen (lo hi : Option Int) (n : Nat) : Builtin.Slice.sliceAdjust lo hi 1 (n : Int) = (((sIx n 0 lo : Nat) : Int), ((sIx n n hi : Nat) : Int)) := by
  have h1 : ¬ ((1 : Int) < 0) := by omega
  unfold Builtin.Slice.sliceAdjust
  simp only [h1, if_false]
  refine Prod.ext ?_ ?_
  · cases lo with
    | none => rfl
    | some v => exact clip_eq v n 0
  · cases hi with
    | none => rfl
    | some v => exact clip_eq v n n
theorem places_gen (i j : Nat) : Builtin.Slice.slicePlaces (i : Int) (j : Int) 1 = j - i := by
  unfold Builtin.Slice.slicePlaces
  have h1 : (1 : Int) > 0 := by omega
  simp only [h1, if_true, Int.ediv_one]
  split <;> omega
theorem slicePart_ {v : Value} {o : Option Int} {Q : Option Int → Shared → Prop} (p : IsPart v o) (h : Q o s) : wpAny (model prog w) A (Builtin.Slice.slicePartIndex v) Q E s := by
  cases p with
  | none => exact slicePart_none h
  | int i t => exact slicePart_int h
theorem sliceApplied_gen {sl : Addr} {vl vu : Value} {lo hi : Option Int} {n : Nat} {Q : Int × Int × Nat → Shared → Prop} (hs : s.heap.IsSliceOf sl vl vu .none) (pl : IsPart vl lo) (pu : IsPart vu hi)
    (h : Q (((sIx n 0 lo : Nat) : Int), 1, sIx n n hi - sIx n 0 lo) s) : wpAny (model prog w) A (Builtin.Slice.sliceApplied (.ref sl) (pure (n : Int))) Q E s := by
  obtain ⟨os, hos, hcs, hds⟩ := id hs
  unfold Builtin.Slice.sliceApplied Builtin.Slice.sliceFields
  refine wpAny_bind (wpAny_bind (wpAny_field hos hds (x := vl) rfl (wpAny_bind (wpAny_field hos hds (x := vu) rfl (wpAny_bind (wpAny_field hos hds (x := .none) rfl (wpAny_pure ?_)))))))
  refine wpAny_bind (slicePart_none ?_)
  show wpAny _ _ (if ((1 : Int) == 0) = true then _ else _) _ _ s
  rw [if_neg (by decide)]
  refine wpAny_bind (slicePart_ pl (wpAny_bind (slicePart_ pu (wpAny_bind (wpAny_pure ?_)))))
  show wpAny _ _ (match Builtin.Slice.sliceAdjust lo hi 1 (n : Int) with | (lo, hi) => pure (lo, (1 : Int), Builtin.Slice.slicePlaces lo hi 1)) _ _ s
  rw [adjust_gen lo hi n]
  show wpAny _ _ (pure (((sIx n 0 lo : Nat) : Int), (1 : Int), Builtin.Slice.slicePlaces ((sIx n 0 lo : Nat) : Int) ((sIx n n hi : Nat) : Int) 1)) _ _ s
  rw [places_gen]
  exact wpAny_pure h
theorem pick_gen (xs : Array Value) (i k : Nat) : ((List.range k).filterMap fun (m : Nat) => xs[((i : Int) + (m : Int) * 1).toNat]?).toArray = ((xs.toList.drop i).take k).toArray := by
  have e : (fun (m : Nat) => xs[((i : Int) + (m : Int) * 1).toNat]?) = fun m => xs[i + m]? := by
    funext m
    have : ((i : Int) + (m : Int) * 1).toNat = i + m := by omega
    rw [this]
  rw [e]
  have := pick_run xs i k
  rw [List.filterMap_map] at this
  have e2 : ((fun x => xs[x]?) ∘ fun x => i + x) = fun m => xs[i + m]? := rfl
  rw [e2] at this
  rw [this]
theorem getItem_tuple_cut {t sl : Addr} {items : Array Value} {vl vu : Value} {lo hi : Option Int} {Q : Value → Shared → Prop} (ht : IsTup s.heap t items) (hs : s.heap.IsSliceOf sl vl vu .none) (pl : IsPart vl lo) (pu : IsPart vu hi)
    (hw : ¬ (sIx items.size 0 lo = 0 ∧ sIx items.size items.size hi = items.size))
    (h : Q (.ref s.heap.objs.size) { s with heap := s.heap.push { cls := .type "tuple", data := .seq ((items.toList.drop (sIx items.size 0 lo)).take (sIx items.size items.size hi - sIx items.size 0 lo)).toArray } })
    (hsz : items.size ≤ sizeLine) : wpAny (model prog w) A (getItem (.ref t) (.ref sl)) Q E s := by
  have htake : sizeOk (.seq ((items.toList.drop (sIx items.size 0 lo)).take (sIx items.size items.size hi - sIx items.size 0 lo)).toArray) := by
    show ((items.toList.drop (sIx items.size 0 lo)).take (sIx items.size items.size hi - sIx items.size 0 lo)).toArray.size ≤ sizeLine
    rw [List.size_toArray, List.length_take, List.length_drop, Array.length_toList]
    omega
  have hj : sIx items.size items.size hi ≤ items.size := sIx_le _ _ (Nat.le_refl _) hi
  obtain ⟨os, hos, hcs, hds⟩ := id hs
  have hTs : s.TypeIs (.ref sl) "slice" := ⟨os, hos, hcs⟩
  unfold getItem
  try with_reducible refine wpAny_holding ?_
  first | refine wpAny_bind (wpAny_pure ?_) | skip
  refine wpAny_bind (wpAny_sequenceKey ht.typeIs (by decide) ?_)
  refine wpAny_bind (wpAny_callSpecial?_slot (name := Str.ofString "__getitem__") ht.typeIs PyProof.Rows.slot_tuple_getitem
    (wpAny_call_entry PyProof.Rows.slot_tuple_getitem ht.typeIs entry_tuple_getitem ?_ (args_tuple_getitem _ _)))
  show wpAny _ _ (Builtin.Tuple.tupleItemsOf (.ref t) >>= _) _ _ s
  refine wpAny_bind (tupleItemsOf_ ht ?_)
  refine wpAny_bind (wpAny_typeOf hTs ?_)
  rw [if_pos (by decide)]
  refine wpAny_bind (sliceApplied_gen hs pl pu ?_)
  have hno : ¬ ((((sIx items.size 0 lo : Nat) : Int) == 0 && (1 : Int) == 1 && (sIx items.size items.size hi - sIx items.size 0 lo) == items.size) = true) := by
    intro q
    rw [Bool.and_eq_true, Bool.and_eq_true] at q
    have q1 : ((sIx items.size 0 lo : Nat) : Int) = 0 := eq_of_beq q.1.1
    have q2 : sIx items.size items.size hi - sIx items.size 0 lo = items.size := eq_of_beq q.2
    exact hw ⟨by omega, by omega⟩
  show wpAny _ _ (if (((sIx items.size 0 lo : Nat) : Int) == 0 && (1 : Int) == 1 && (sIx items.size items.size hi - sIx items.size 0 lo) == items.size) = true then _ else _) _ _ s
  rw [if_neg hno, pick_gen]
  first
    | exact wpAny_bind (m := Builtin.Tuple.tupleExact _) (wpAny_newObj_type (wpAny_pure ⟨_, rfl, wpAny_pure h⟩) htake)
    | exact wpAny_bind (m := Builtin.Tuple.tupleExact _) (wpAny_newObj_type (wpAny_bind (wpAny_pure (wpAny_pure ⟨_, rfl, wpAny_pure h⟩))) htake)
    | exact wpAny_bind (wpAny_bind (m := Builtin.Tuple.tupleExact _) (wpAny_newObj_type (wpAny_pure (wpAny_pure ⟨_, rfl, wpAny_pure h⟩)) htake))
    | exact wpAny_bind (wpAny_bind (m := Builtin.Tuple.tupleExact _) (wpAny_newObj_type (wpAny_pure ⟨_, rfl, wpAny_pure h⟩) htake))
end
end HT
namespace L2
open PySem PySem.Spec PyProof.Rows
abbrev TO := St → Hp → (Option Int → Hp → Prop) → Prop
def PO (X : Cx) (e : Option Expr) (t : TO) : Prop :=
  ∀ (pins : List (Addr × Obj)) (s : Shared) (σ : St) (H : Hp) (Q : Option Int → Hp → Prop), Inv X pins σ H s → t σ H Q →
    wpAny (model X.prog X.w) X.A (evalPart e X.env) (fun u s' => ∃ o H', Inv X pins σ H' s' ∧ IsPart u o ∧ Q o H') X.xe s
def tNoPart : TO := fun _ H Q => Q none H
def tPart (t : TE) : TO := fun σ H Q => t σ H fun x H1 => ∃ i, x = .int i ∧ Q (some i) H1
section
variable {X : Cx} {e : Expr} {te : TE} {lo hi : Option Expr} {tl th : TO} {pos p2 : Pos}
theorem po_none : PO X none tNoPart := by
  intro pins s σ H Q I h
  rw [evalPart_none]
  exact wpAny_pure ⟨none, H, I, .none, h⟩
theorem po_some (h : PE X e te) : PO X (some e) (tPart te) := by
  intro pins s σ H Q I hw
  rw [evalPart_some]
  refine thn (h pins s σ H _ I hw) fun u s1 ⟨x, H1, I1, r1, q1⟩ => ?_
  obtain ⟨i, rfl, q⟩ := q1
  obtain ⟨t, rfl⟩ := r1
  exact ⟨some i, H1, I1, .int i t, q⟩
def SlR (X : Cx) (r : V → Option Int → Option Int → Hp → VK → Prop) : Prop :=
  ∀ (pins : List (Addr × Obj)) (s : Shared) (σ : St) (H : Hp) (x : V) (v vl vu : Value) (lo hi : Option Int) (sl : Addr) (Q : VK), Inv X pins σ H s → RelV x v → s.heap.IsSliceOf sl vl vu .none → IsPart vl lo → IsPart vu hi → r x lo hi H Q →
    ∃ T id, typeLookup (.type T) "__getitem__" = pure (some (.builtin id)) ∧ s.TypeIs v T ∧ wpAny (model X.prog X.w) X.A (getItem v (.ref sl)) (EP X pins σ Q) X.xe s
def tSl (r : V → Option Int → Option Int → Hp → VK → Prop) (te : TE) (tl th : TO) : TE := fun σ H Q => te σ H fun x H1 => tl σ H1 fun l H2 => th σ H2 fun u H3 => r x l u H3 Q
theorem pe_slice {r : V → Option Int → Option Int → Hp → VK → Prop} (hr : SlR X r) (he : PE X e te) (hl : PO X lo tl) (hu : PO X hi th) : PE X (.Subscript e (.Slice lo hi none p2) pos) (tSl r te tl th) := by
  intro pins s σ H Q I h
  refine Subscript_ (thn (he pins s σ H _ I h) fun v s1 ⟨x, H1, I1, r1, q1⟩ => ?_)
  refine wpAny_Slice (thn (hl pins s1 σ H1 _ I1 q1) fun vl s2 ⟨l, H2, I2, pl, q2⟩ => thn (hu pins s2 σ H2 _ I2 q2) fun vu s3 ⟨u, H3, I3, pu, q3⟩ => ?_)
  rw [evalPart_none]
  refine wpAny_pure ?_
  have I4 : Inv X pins σ H3 { s3 with heap := s3.heap.push { cls := .type "slice", data := .fields #[vl, vu, .none] } } := I3.kept (t' := s3.toks) fun b ob q => Heap.get?_push_of_some _ q
  obtain ⟨T, id, hT, ht, hg⟩ := hr pins { s3 with heap := s3.heap.push { cls := .type "slice", data := .fields #[vl, vu, .none] } } σ H3 x v vl vu l u s3.heap.objs.size Q I4 r1 (Heap.IsSliceOf.new ..) pl pu q3
  show wpAny (model X.prog X.w) X.A (subscriptTail e (.Slice lo hi none p2) v (.ref s3.heap.objs.size)) (EP X pins σ Q) X.xe { s3 with heap := s3.heap.push { cls := .type "slice", data := .fields #[vl, vu, .none] } }
  exact tail_any (ops := [.ref s3.heap.objs.size, v]) ht hT hg (by with_unfolding_all rfl)
def cutV (xs : List V) (lo hi : Option Int) : List V := (xs.drop (HT.sIx xs.length 0 lo)).take (HT.sIx xs.length xs.length hi - HT.sIx xs.length 0 lo)
theorem cutV_length (xs : List V) (lo hi : Option Int) : (cutV xs lo hi).length ≤ xs.length := by
  unfold cutV
  rw [List.length_take, List.length_drop]
  omega
def rSlT (K : PySem.W.Frag) : V → Option Int → Option Int → Hp → VK → Prop := fun x lo hi H Q => ∃ a xs, x = .ref a ∧ SqT K H a xs ∧
  ¬ (HT.sIx xs.length 0 lo = 0 ∧ HT.sIx xs.length xs.length hi = xs.length) ∧ ∀ p, H p = none → Q (.ref p) (upd H p (.tup (cutV xs lo hi)))
theorem sl_tup : SlR X (rSlT X.K) := by
  intro pins s σ H x v vl vu lo hi sl Q I rx hs pl pu h
  obtain ⟨a, xs, rfl, hx, hw, q⟩ := h
  cases rx
  obtain ⟨its, r, ht, hz⟩ := I.tuple hx
  have hlen : its.toArray.size = xs.length := by rw [List.size_toArray]; exact r.length.symm
  refine ⟨"tuple", _, PyProof.Rows.slot_tuple_getitem.lookup, ht.typeIs, ?_⟩
  refine HT.getItem_tuple_cut ht hs pl pu (by rw [hlen]; exact hw) ?_ (by rw [hlen]; exact hz)
  rw [hlen]
  refine ⟨.ref s.heap.objs.size, _, I.laid (t' := s.toks) (o := .tup (cutV xs lo hi)) (fun b ob q => Heap.get?_push_of_some _ q) (Nat.le_refl _) ?_, rfl, q _ (I.hok.fresh (Nat.le_refl _))⟩
  exact ⟨Nat.le_trans (cutV_length xs lo hi) hz, _, (r.drop (HT.sIx xs.length 0 lo)).take (HT.sIx xs.length xs.length hi - HT.sIx xs.length 0 lo), IsTup.new _ _⟩
end
end L2
namespace L2
open PySem PySem.Spec PyProof.Rows
def ixN (n : Nat) (i : Int) : Option Nat := if 0 ≤ i then (if i < n then some i.toNat else none) else if -(n : Int) ≤ i then some (i + n).toNat else none
def atI {α : Type} (xs : List α) (i : Int) : Option α := (ixN xs.length i).bind fun j => xs[j]?
theorem ixN_seq {n : Nat} {i : Int} {j : Nat} (h : ixN n i = some j) : seqIndex? i n = some j ∧ j < n ∧ -(n : Int) ≤ i ∧ i < n := by
  unfold ixN at h
  by_cases h0 : 0 ≤ i
  · rw [if_pos h0] at h
    by_cases h1 : i < n
    · rw [if_pos h1] at h
      have e : i.toNat = j := Option.some.inj h
      exact ⟨by rw [seqIndex_of h0 h1, e], by omega, by omega, h1⟩
    · rw [if_neg h1] at h; cases h
  · rw [if_neg h0] at h
    by_cases h1 : -(n : Int) ≤ i
    · rw [if_pos h1] at h
      have e : (i + n).toNat = j := Option.some.inj h
      exact ⟨by rw [seqIndex_neg (by omega) h1, e], by omega, h1, by omega⟩
    · rw [if_neg h1] at h; cases h
theorem atI_get {α : Type} {xs : List α} {i : Int} {v : α} (h : atI xs i = some v) : ∃ j, seqIndex? i xs.length = some j ∧ xs[j]? = some v ∧ j < xs.length ∧ -(xs.length : Int) ≤ i ∧ i < xs.length := by
  unfold atI at h
  cases e : ixN xs.length i with
  | none => rw [e] at h; cases h
  | some j =>
    rw [e] at h
    obtain ⟨h1, h2, h3, h4⟩ := ixN_seq e
    exact ⟨j, h1, h, h2, h3, h4⟩
theorem atI_nat {α : Type} {xs : List α} {j : Nat} {v : α} (h : xs[j]? = some v) : atI xs (j : Int) = some v := by
  have hj : j < xs.length := (List.getElem?_eq_some_iff.mp h).1
  have e : ixN xs.length (j : Int) = some j := by
    unfold ixN
    rw [if_pos (by omega), if_pos (by omega)]; simp
  unfold atI; rw [e]; exact h
theorem atI_last {α : Type} (xs : List α) (v : α) : atI (xs ++ [v]) (-1) = some v := by
  have hl : (xs ++ [v]).length = xs.length + 1 := by simp
  have e : ixN (xs ++ [v]).length (-1) = some xs.length := by
    unfold ixN
    rw [hl, if_neg (by decide), if_pos (by omega)]
    congr 1
    omega
  unfold atI
  rw [e]
  show (xs ++ [v])[xs.length]? = some v
  simp
def PlainIx (b : Expr) : Prop := ∀ o i, subscripted b false o i = operate [o, i] (getItem o i)
def IxR (X : Cx) (r : R2) : Prop :=
  ∀ (value slice : Expr) (pins : List (Addr × Obj)) (s : Shared) (σ : St) (H : Hp) (x y : V) (v u : Value) (Q : VK), Inv X pins σ H s → RelV x v → RelV y u → r x y H Q →
    subscripted slice false v u = operate [v, u] (getItem v u) → wpAny (model X.prog X.w) X.A (subscriptTail value slice v u) (EP X pins σ Q) X.xe s
def MtR (X : Cx) (id : String) (r : V → List V → Hp → VK → Prop) : Prop :=
  ∀ (pins : List (Addr × Obj)) (s : Shared) (σ : St) (H : Hp) (x : V) (xs : List V) (v : Value) (us : List Value) (Q : VK), Inv X pins σ H s → RelV x v → Vals xs us → r x xs H Q →
    wpAny (model X.prog X.w) X.A (call (.builtin id) (v :: us)) (EP X pins σ Q) X.xe s
section
variable {X : Cx} {a b : Expr} {ta tb : TE} {pos : Pos}
theorem pe_ix {r : R2} (hr : IxR X r) (ha : PE X a ta) (hb : PE X b tb) (hs : PlainIx b) : PE X (.Subscript a b pos) (tOp r ta tb) := by
  intro pins s σ H Q I h
  exact Subscript_ (binT ha hb I h fun v u s2 x y H2 I2 rx ry q => hr a b pins s2 σ H2 x y v u Q I2 rx ry q (hs _ _))
def rIxL (K : PySem.W.Frag) : R2 := fun x y H Q => ∃ p xs i v, x = .ref p ∧ y = .int i ∧ SqL K H p xs ∧ atI xs i = some v ∧ Q v H
def rIxT (K : PySem.W.Frag) : R2 := fun x y H Q => ∃ p xs i v, x = .ref p ∧ y = .int i ∧ SqT K H p xs ∧ atI xs i = some v ∧ Q v H
def rIxS : R2 := fun x y H Q => ∃ z i c, x = .str z ∧ y = .int i ∧ z.length ≤ sizeLine ∧ atI z.cps.toList i = some c ∧ Q (.str ⟨#[c]⟩) H
theorem ix_list : IxR X (rIxL X.K) := by
  intro value slice pins s σ H x y v u Q I rx ry h hs
  obtain ⟨p, xs, i, z, rfl, rfl, hq, he, q⟩ := h
  cases rx
  obtain ⟨t, rfl⟩ := ry
  obtain ⟨its, r, pl, hz⟩ := I.list hq
  obtain ⟨j, h1, h2, h3, h4, h5⟩ := atI_get he
  obtain ⟨w, ew, rw'⟩ := r.get h2
  have hl := r.length
  have hn := line63
  have fin : EP X pins σ Q w s := ⟨z, H, I, rw', q⟩
  by_cases h0 : 0 ≤ i
  · have hj : i.toNat = j := by
      rw [seqIndex_of h0 h5] at h1
      exact Option.some.inj h1
    exact item_listR pl.isList h0 (by omega) (by rw [hj]; simpa using ew) fin hs
  · have hj : (i + (its.toArray.size : Int)).toNat = j := by
      rw [seqIndex_neg (by omega) h4] at h1
      rw [List.size_toArray, ← hl]
      exact Option.some.inj h1
    exact subscriptTail_builtinR (x := w) pl.isList.typeIs slot_list_getitem.lookup
      (wpAny_getItem_list_neg (Q := fun r s' => r = w ∧ EP X pins σ Q r s') pl.isList (by omega) (by rw [List.size_toArray] <;> omega) (by omega) (by rw [hj]; simpa using ew) ⟨rfl, fin⟩) hs
theorem ix_tup : IxR X (rIxT X.K) := by
  intro value slice pins s σ H x y v u Q I rx ry h hs
  obtain ⟨p, xs, i, z, rfl, rfl, hq, he, q⟩ := h
  cases rx
  obtain ⟨t, rfl⟩ := ry
  obtain ⟨its, r, pl, hz⟩ := I.tuple hq
  obtain ⟨j, h1, h2, h3, h4, h5⟩ := atI_get he
  obtain ⟨w, ew, rw'⟩ := r.get h2
  have hl := r.length
  have hn := line63
  have fin : EP X pins σ Q w s := ⟨z, H, I, rw', q⟩
  exact subscriptTail_builtinR (x := w) pl.typeIs slot_tuple_getitem.lookup
    (getItem_tuple (j := j) (Q := fun r s' => r = w ∧ EP X pins σ Q r s') pl (by omega) (by omega) (by rw [List.size_toArray, ← hl]; exact h1) (by simpa using ew) ⟨rfl, fin⟩) hs
theorem ix_str : IxR X rIxS := by
  intro value slice pins s σ H x y v u Q I rx ry h hs
  obtain ⟨z, i, c, rfl, rfl, hz, he, q⟩ := h
  obtain ⟨t, rfl⟩ := rx
  obtain ⟨t', rfl⟩ := ry
  obtain ⟨j, h1, h2, h3, h4, h5⟩ := atI_get he
  have hl : z.cps.toList.length = z.length := by simp [Str.length]
  rw [hl] at h1 h4 h5
  have hn := line63
  exact tail_any (typeIs_str s z t) slot_str_getitem.lookup (getItem_str (c := c) (by
    have e1 : decide (i < -(2 ^ 63 : Int)) = false := decide_eq_false (by omega)
    have e2 : decide (i ≥ 2 ^ 63) = false := decide_eq_false (by omega)
    rw [e1, e2, Bool.or_false]) (by rw [h1]; simpa using h2) ⟨.str ⟨#[c]⟩, H, I.tok _, ⟨_, rfl⟩, q⟩) hs
theorem slice_bounds (lo hi : Option Int) (n : Nat) : (sliceBounds lo hi none n).1 = ((HT.sIx n 0 lo : Nat) : Int) ∧ (sliceBounds lo hi none n).2.1 = ((HT.sIx n n hi : Nat) : Int) ∧ (sliceBounds lo hi none n).2.2 = 1 := by
  refine ⟨?_, ?_, rfl⟩
  · cases lo with
    | none => simp [sliceBounds, HT.sIx]
    | some i =>
      simp only [sliceBounds, HT.sIx, Option.getD_none, show (1 : Int) > 0 by decide, if_true]
      by_cases h : i < 0
      · simp only [h, if_true] <;> omega
      · simp only [h, if_false] <;> omega
  · cases hi with
    | none => simp [sliceBounds, HT.sIx]
    | some i =>
      simp only [sliceBounds, HT.sIx, Option.getD_none, show (1 : Int) > 0 by decide, if_true]
      by_cases h : i < 0
      · simp only [h, if_true] <;> omega
      · simp only [h, if_false] <;> omega
theorem slicePick_cut (its : List Value) (lo hi : Option Int) : slicePick its.toArray lo hi none = ((its.drop (HT.sIx its.length 0 lo)).take (HT.sIx its.length its.length hi - HT.sIx its.length 0 lo)).toArray := by
  obtain ⟨h1, h2, h3⟩ := slice_bounds lo hi its.toArray.size
  unfold slicePick
  rw [h1, h2, h3]
  simp only [sliceRange_one, pick_run, List.size_toArray] <;> rfl
def rSlL (K : PySem.W.Frag) : V → Option Int → Option Int → Hp → VK → Prop := fun x lo hi H Q => ∃ a xs, x = .ref a ∧ SqL K H a xs ∧ ∀ p, H p = none → Q (.ref p) (upd H p (.lst (cutV xs lo hi)))
theorem sl_list : SlR X (rSlL X.K) := by
  intro pins s σ H x v vl vu lo hi sl Q I rx hs pl pu h
  obtain ⟨a, xs, rfl, hx, q⟩ := h
  cases rx
  obtain ⟨its, r, ht, hz⟩ := I.list hx
  have hlen := r.length
  refine ⟨"list", _, slot_list_getitem.lookup, ht.isList.typeIs, ?_⟩
  refine wpAny_getItem_list_slice ht.isList hs pl pu .none (by simp) ?_ (by rw [List.size_toArray] <;> omega)
  rw [slicePick_cut, ← hlen]
  refine ⟨.ref s.heap.objs.size, _, I.laid (t' := s.toks) (o := .lst (cutV xs lo hi)) (fun b ob q => Heap.get?_push_of_some _ q) (Nat.le_refl _) ?_, rfl, q _ (I.hok.fresh (Nat.le_refl _))⟩
  exact ⟨Nat.le_trans (cutV_length xs lo hi) hz, _, 0, (r.drop (HT.sIx xs.length 0 lo)).take (HT.sIx xs.length xs.length hi - HT.sIx xs.length 0 lo), Heap.get?_push_size _ rfl⟩
def flatV : V → Bool
  | .non => true
  | .bl _ => true
  | .int _ => true
  | .str _ => true
  | _ => false
def eqV : V → V → Bool
  | .non, .non => true
  | .bl a, .bl b => a == b
  | .bl a, .int b => (if a then 1 else 0) == b
  | .int a, .bl b => a == (if b then 1 else 0)
  | .int a, .int b => a == b
  | .str a, .str b => a == b
  | _, _ => false
theorem eqAt_V {A : Around} {s : Shared} {y x : V} {u v : Value} (ry : RelV y u) (rx : RelV x v) (fy : flatV y = true) (fx : flatV x = true) : SeqAt.EqAt A s u v (eqV y x) := by
  cases y with
  | non =>
    cases ry
    cases x with
    | non => cases rx; exact SeqAt.EqAt.same _
    | bl b => cases rx; exact SeqAt.EqAt.none_bool b
    | int b => obtain ⟨t, rfl⟩ := rx; exact SeqAt.EqAt.none_int b t
    | str b => obtain ⟨t, rfl⟩ := rx; exact SeqAt.EqAt.none_str b t
    | _ => exact absurd (show false = true from fx) Bool.false_ne_true
  | bl a =>
    cases ry
    cases x with
    | non => cases rx; exact SeqAt.EqAt.bool_none a
    | bl b => cases rx; exact SeqAt.EqAt.bool_bool a b
    | int b => obtain ⟨t, rfl⟩ := rx; exact SeqAt.EqAt.bool_int a b t
    | str b => obtain ⟨t, rfl⟩ := rx; exact SeqAt.EqAt.bool_str a b t
    | _ => exact absurd (show false = true from fx) Bool.false_ne_true
  | int a =>
    obtain ⟨t', rfl⟩ := ry
    cases x with
    | non => cases rx; exact SeqAt.EqAt.int_none a t'
    | bl b => cases rx; exact SeqAt.EqAt.int_bool a t' b
    | int b => obtain ⟨t, rfl⟩ := rx; exact SeqAt.EqAt.int_int a t' b t
    | str b => obtain ⟨t, rfl⟩ := rx; exact SeqAt.EqAt.int_str a t' b t
    | _ => exact absurd (show false = true from fx) Bool.false_ne_true
  | str a =>
    obtain ⟨t', rfl⟩ := ry
    cases x with
    | non => cases rx; exact SeqAt.EqAt.str_none a t'
    | bl b => cases rx; exact SeqAt.EqAt.str_bool a t' b
    | int b => obtain ⟨t, rfl⟩ := rx; exact SeqAt.EqAt.str_int a t' b t
    | str b => obtain ⟨t, rfl⟩ := rx; exact SeqAt.EqAt.str_str a t' b t
    | _ => exact absurd (show false = true from fx) Bool.false_ne_true
  | _ => exact absurd (show false = true from fy) Bool.false_ne_true
theorem call_len_seq : CallR X (.builtin "len") (fun xs H Q => ∃ p ys, xs = [.ref p] ∧ (SqL X.K H p ys ∨ SqT X.K H p ys) ∧ Q (.int ys.length) H) := by
  intro pins s σ H xs us Q I r h
  obtain ⟨p, ys, rfl, hq, q⟩ := h
  obtain ⟨u, rfl, rx⟩ := vals1 r
  cases rx
  have hn := line63
  rcases hq with hq | hq
  · obtain ⟨its, r', pl, hz⟩ := I.list hq
    have hlen := r'.length
    exact Calls.call_len_list pl.isList (by simp only [List.size_toArray] <;> omega) ⟨.int ys.length, H, I.tok _, ⟨s.toks + 1, by rw [List.size_toArray, hlen]⟩, q⟩
  · obtain ⟨its, r', pl, hz⟩ := I.tuple hq
    have hlen := r'.length
    exact len_tuple pl (by simp only [List.size_toArray] <;> omega) ⟨.int ys.length, H, I.tok _, ⟨s.toks + 1, by rw [List.size_toArray, hlen]⟩, q⟩
theorem call_list_of : CallR X (.type "list") (fun xs H Q => ∃ p ys, xs = [.ref p] ∧ (SqL X.K H p ys ∨ SqT X.K H p ys) ∧ ∀ l, H l = none → Q (.ref l) (upd H l (.lst ys))) := by
  intro pins s σ H xs us Q I r h
  obtain ⟨p, ys, rfl, hq, q⟩ := h
  obtain ⟨u, rfl, rx⟩ := vals1 r
  cases rx
  have fin : ∀ (its : List Value), Vals ys its → ys.length ≤ sizeLine → ∀ (h' : Heap) (c' : Nat), (∀ b o', s.heap.get? b = some o' → h'.get? b = some o') →
      h'.get? s.heap.objs.size = some { cls := .type "list", dict := none, data := .seq its.toArray c', slots := #[] } → EP X pins σ Q (.ref s.heap.objs.size) { s with heap := h' } := fun its r' hz h' c' kp e =>
    ⟨.ref s.heap.objs.size, _, I.laid (t' := s.toks) kp (Nat.le_refl _) (show ObjOk X.prog X.w _ h' _ (.lst ys) from ⟨hz, its, c', r', e⟩), rfl, q _ (I.hok.fresh (Nat.le_refl _))⟩
  rcases hq with hq | hq
  · obtain ⟨its, r', pl, hz⟩ := I.list hq
    have hlen := r'.length
    obtain ⟨o, ho, hc, n, hd⟩ := pl.isList
    exact call_list_seq p (.inl rfl) ho hc hd (fun h' c' kp e => fin its r' hz h' c' kp e) (by simp only [List.size_toArray] <;> omega)
  · obtain ⟨its, r', pl, hz⟩ := I.tuple hq
    have hlen := r'.length
    obtain ⟨o, ho, hc, n, hd⟩ := pl
    exact call_list_seq p (.inr rfl) ho hc hd (fun h' c' kp e => fin its r' hz h' c' kp e) (by simp only [List.size_toArray] <;> omega)
def tyV (K : PySem.W.Frag) (T : String) (x : V) (H : Hp) : Prop := match x with
  | .str _ => T = "str"
  | .int _ => T = "int"
  | .ref p => (T = "list" ∧ ∃ xs, SqL K H p xs) ∨ (T = "tuple" ∧ ∃ o, K.lookup p = some o ∧ o.cls = .type "tuple" ∧ o.dict = none) ∨
      (T = "dict" ∧ ((∃ kvs, H p = some (.dK kvs)) ∨ ∃ kvs, H p = some (.dT kvs))) ∨ (T = "set" ∧ ∃ S n, H p = some (.set S n))
  | _ => False
theorem tyV_is {pins : List (Addr × Obj)} {σ : St} {H : Hp} {s : Shared} {T : String} {x : V} {v : Value} (I : Inv X pins σ H s) (r : RelV x v) (ty : tyV X.K T x H) :
    s.TypeIs v T ∧ ∀ a, v = .ref a → ∃ ob, s.heap.get? a = some ob ∧ ob.dict = none := by
  cases x with
  | str z =>
    obtain ⟨t, rfl⟩ := r
    cases (show T = "str" from ty)
    exact ⟨typeIs_str s z t, fun _ e => nomatch e⟩
  | int i =>
    obtain ⟨t, rfl⟩ := r
    cases (show T = "int" from ty)
    exact ⟨typeIs_int s i t, fun _ e => nomatch e⟩
  | ref p =>
    cases r
    rcases ty with ⟨rfl, xs, hq⟩ | ⟨rfl, o, hk, hc, hd⟩ | ⟨rfl, hk⟩ | ⟨rfl, S, n, hk⟩
    · obtain ⟨its, _, pl, _⟩ := I.list hq
      refine ⟨pl.isList.typeIs, fun a e => ?_⟩
      cases e
      obtain ⟨o, n, e, c, hd, _⟩ := pl
      exact ⟨o, e, hd⟩
    · refine ⟨⟨o, I.kIn p o hk, hc⟩, fun a e => ?_⟩
      cases e
      exact ⟨o, I.kIn _ o hk, hd⟩
    · have z : ∃ o, s.heap.get? p = some o ∧ o.ExactDict := by
        rcases hk with ⟨kvs, hk⟩ | ⟨kvs, hk⟩
        · obtain ⟨_, _, _, _, o, _, _, e, ex, _⟩ := I.hok p _ hk
          exact ⟨o, e, ex⟩
        · obtain ⟨_, _, _, _, o, _, _, e, ex, _⟩ := I.hok p _ hk
          exact ⟨o, e, ex⟩
      obtain ⟨o, e, ex⟩ := z
      refine ⟨⟨o, e, ex.1⟩, fun a e2 => ?_⟩
      cases e2
      exact ⟨o, e, ex.2.1⟩
    · obtain ⟨o, _, _, _, e, ex, _⟩ := I.hok p _ hk
      refine ⟨⟨o, e, ex.1⟩, fun a e2 => ?_⟩
      cases e2
      exact ⟨o, e, ex.2.1⟩
  | _ => exact False.elim ty
def tBM0 (K : PySem.W.Frag) (T : String) (r : V → List V → Hp → VK → Prop) (to : TE) : TE := fun σ H Q => to σ H fun x H1 => tyV K T x H1 ∧ r x [] H1 Q
def tBM (K : PySem.W.Frag) (T : String) (r : V → List V → Hp → VK → Prop) (to : TE) (t : TA) : TE := fun σ H Q => to σ H fun x H1 => tyV K T x H1 ∧ t σ H1 fun xs H2 => r x xs H2 Q
variable {o e : Expr} {es : List Expr} {to : TE} {t : TA} {name : Str} {apos cpos : Pos} {T id : String} {r : V → List V → Hp → VK → Prop}
theorem pe_bm0 (pa : PlainAttrs T) (slot : Slot T name id) (hty : typeOf (.builtin id) = pure (.type "method_descriptor")) (hm : MtR X id r) (ho : PE X o to)
    (hbase : attributeBase o name X.env (eval o X.env) = eval o X.env := by rfl) (hline : (apos.endLine == cpos.line) = true := by rfl) : PE X (.Call (.Attribute o name apos) [] [] cpos) (tBM0 X.K T r to) := by
  intro pins s σ H Q I h
  refine wpAny_Call_method0_late hbase hline (thn (ho pins s σ H _ I h) fun v s1 ⟨x, H1, I1, r1, ty, q1⟩ => ?_)
  obtain ⟨h1, h2⟩ := tyV_is I1 r1 ty
  exact ⟨T, id, pa, slot, hty, h1, h2, Calls.callWith_builtin rfl (PySem.evalArgs_none (hm pins s1 σ H1 x [] v [] Q I1 r1 .nil q1))⟩
theorem pe_bm (pa : PlainAttrs T) (slot : Slot T name id) (hty : typeOf (.builtin id) = pure (.type "method_descriptor")) (hm : MtR X id r) (ho : PE X o to) (ha : PA X (e :: es) t)
    (hbase : attributeBase o name X.env (eval o X.env) = eval o X.env := by rfl)
    (hfew : ((backTo cpos (starEach (e :: es) X.env)).all (fun x => !x.1) && (backToKw cpos (keywordEach [] X.env)).all (fun x => x.1.isSome)
      && decide ((e :: es).length + ([] : List Keyword).length + (if ([] : List Keyword).isEmpty then 0 else 1) < 30)) = true := by rfl)
    (hline : (apos.endLine == cpos.line) = true := by rfl) (hs : starEach (e :: es) X.env = (false, eval e X.env) :: starEach es X.env := by rfl) (hplain : (backTo cpos (starEach es X.env)).any (·.1) = false := by rfl) :
    PE X (.Call (.Attribute o name apos) (e :: es) [] cpos) (tBM X.K T r to t) := by
  intro pins s σ H Q I h
  refine wpAny_Call_method_late hbase hfew hline rfl (thn (ho pins s σ H _ I h) fun v s1 ⟨x, H1, I1, r1, ty, q1⟩ => ?_)
  obtain ⟨h1, h2⟩ := tyV_is I1 r1 ty
  refine ⟨T, id, pa, slot, hty, h1, h2, ?_⟩
  have hA := ha cpos pins s1 σ H1 _ I1 q1
  rw [hs] at hA ⊢
  refine Calls.callWith_builtin (by show (false || (backTo cpos (starEach es X.env)).any (·.1)) = false; rw [hplain] <;> rfl) (Calls.evalArgs_plain ?_)
  exact thn hA fun us s2 ⟨vs, H2, I2, r2, q2⟩ => hm pins s2 σ H2 x vs v us Q I2 r1 r2 q2
end
end L2
namespace L2
open PySem PySem.Spec PyProof.Rows
def MtM (X : Cx) (id : String) (r : V → List V → Hp → VK → Prop) : Prop :=
  ∀ (pins : List (Addr × Obj)) (s : Shared) (σ : St) (H : Hp) (x : V) (xs : List V) (v : Value) (us : List Value) (Q : VK), Inv X pins σ H s → RelV x v → Vals xs us → r x xs H Q →
    wpAny (model X.prog X.w) X.A (call (.builtin id) (v :: us)) (EP X pins σ Q) X.xe s
theorem Vals.one : ∀ {x : V} {us : List Value}, Vals [x] us → ∃ u, us = [u] ∧ RelV x u
  | _, _, .cons r .nil => ⟨_, rfl, r⟩
theorem Vals.two : ∀ {x y : V} {us : List Value}, Vals [x, y] us → ∃ u v, us = [u, v] ∧ RelV x u ∧ RelV y v
  | _, _, _, .cons r (.cons q .nil) => ⟨_, _, rfl, r, q⟩
theorem Vals.zero : ∀ {us : List Value}, Vals [] us → us = []
  | _, .nil => rfl
theorem Vals.dropLast {xs : List V} {us : List Value} (h : Vals xs us) : Vals xs.dropLast us.dropLast := by
  induction h with
  | nil => exact .nil
  | cons r t ih =>
    cases t with
    | nil => exact .nil
    | cons q t' => exact .cons r ih
theorem Vals.eraseIdx : ∀ {xs : List V} {us : List Value} (i : Nat), Vals xs us → Vals (xs.eraseIdx i) (us.eraseIdx i)
  | _, _, _, .nil => .nil
  | _, _, 0, .cons _ t => t
  | _, _, i + 1, .cons r t => .cons r (Vals.eraseIdx i t)
theorem erase_last {α : Type} (l : List α) : l.eraseIdx (l.length - 1) = l.dropLast := by
  induction l with
  | nil => rfl
  | cons a r ih =>
    cases r with
    | nil => rfl
    | cons b r =>
      have e : (a :: b :: r).length - 1 = ((b :: r).length - 1) + 1 := by
        have h1 : (a :: b :: r).length = r.length + 2 := rfl
        have h2 : (b :: r).length = r.length + 1 := rfl
        omega
      rw [e, List.eraseIdx_cons_succ, ih]
      all_goals rfl
theorem len_erase {α : Type} : ∀ (l : List α) (i : Nat), (l.eraseIdx i).length ≤ l.length
  | [], _ => Nat.le_refl _
  | _ :: _, 0 => Nat.le_succ _
  | _ :: r, i + 1 => Nat.succ_le_succ (len_erase r i)
section
variable {X : Cx} {pins : List (Addr × Obj)} {σ : St} {H : Hp} {s : Shared} {l b : Addr} {xs ys zs : List V}
theorem Inv.lset {its its' : List Value} {n : Nat} {f : Array Value → Array Value} {t' : Nat} (I : Inv X pins σ H s) (hH : H l = some (.lst xs))
    (e : s.heap.get? l = some { cls := .type "list", data := .seq its.toArray n }) (hf : f its.toArray = its'.toArray) (hv : Vals ys its') (hz : ys.length ≤ sizeLine) :
    Inv X pins σ (upd H l (.lst ys)) { s with heap := s.heap.update l (Obj.mapSeq f), toks := t' } := by
  have q := PySem.IsL.update e f
  rw [hf] at q
  refine I.write (x := l) (e := l) (by rw [hH]; exact trivial) (.inl rfl) (fun b' u hb hu => (Heap.get?_update_other s.heap (Obj.mapSeq f) (Ne.symm hb)).trans hu) ⟨_, q⟩ ?_
  exact ⟨hz, its', _, hv, q⟩
theorem Inv.lnew {its : List Value} {t' : Nat} (I : Inv X pins σ H s) (hv : Vals ys its) (hz : ys.length ≤ sizeLine) :
    Inv X pins σ (upd H s.heap.objs.size (.lst ys)) { s with heap := s.heap.push { cls := .type "list", data := .seq its.toArray }, toks := t' } :=
  I.laid (fun _ _ q => Heap.get?_push_of_some _ q) (Nat.le_refl _) ⟨hz, its, 0, hv, Heap.get?_push_size _ rfl⟩
theorem Inv.fresh (I : Inv X pins σ H s) : H s.heap.objs.size = none := I.hok.fresh (Nat.le_refl _)
theorem Inv.lstM (I : Inv X pins σ H s) (hH : H l = some (.lst xs)) : xs.length ≤ sizeLine ∧ ∃ (its : List Value) (n : Nat), Vals xs its ∧ xs.length = its.length ∧ s.heap.get? l = some { cls := .type "list", data := .seq its.toArray n } := by
  obtain ⟨z, its, n, r, e⟩ := I.hok l _ hH
  exact ⟨z, its, n, r, r.length, e⟩
end
section
variable {X : Cx}
def rAppend : V → List V → Hp → VK → Prop := fun x vs H Q => ∃ l xs y, x = .ref l ∧ vs = [y] ∧ H l = some (.lst xs) ∧ xs.length < sizeLine ∧ Q .non (upd H l (.lst (xs ++ [y])))
theorem mt_append : MtM X "list.append" rAppend := by
  intro pins s σ H x vs v us Q I rx rv h
  obtain ⟨l, xs, y, rfl, rfl, hH, hz, q⟩ := h
  cases rx
  obtain ⟨u, rfl, ru⟩ := rv.one
  obtain ⟨z, its, n, r, hl, e⟩ := I.lstM hH
  refine call_meets F.slot_list_append ⟨_, e, rfl⟩ F.entry_list_append (F.args_list_append_2 _ _) (PySem.list_append l its.toArray n u (by rw [List.size_toArray]; omega)) ⟨e, ?_⟩
  refine ⟨.non, _, I.lset (its' := its ++ [u]) hH e (by simp) (r.append (.cons ru .nil)) ?_, rfl, q⟩
  rw [List.length_append, List.length_singleton]
  omega
def rPop : V → List V → Hp → VK → Prop := fun x vs H Q => ∃ l xs y, x = .ref l ∧ vs = [] ∧ H l = some (.lst xs) ∧ xs[xs.length - 1]? = some y ∧ Q y (upd H l (.lst xs.dropLast))
theorem mt_pop : MtM X "list.pop" rPop := by
  intro pins s σ H x vs v us Q I rx rv h
  obtain ⟨l, xs, y, rfl, rfl, hH, hy, q⟩ := h
  cases rx
  have hus := rv.zero
  subst hus
  obtain ⟨z, its, n, r, hl, e⟩ := I.lstM hH
  obtain ⟨u, hu, ru⟩ := r.get hy
  have hy' : its.toArray[its.toArray.size - 1]? = some u := by
    show its.toArray[its.length - 1]? = some u
    rw [← Array.getElem?_toList, ← hl]
    exact hu
  refine call_meets F.slot_list_pop ⟨_, e, rfl⟩ F.entry_list_pop (F.args_list_pop_1 _) (MeetsSeq.list_pop_last l its.toArray n u hy' (by rw [List.size_toArray]; omega)) ⟨e, ?_⟩
  refine ⟨y, _, I.lset (its' := its.dropLast) hH e ?_ r.dropLast ?_, ru, q⟩
  · show its.toArray.eraseIdxIfInBounds (its.toArray.size - 1) = its.dropLast.toArray
    rw [List.size_toArray, List.eraseIdxIfInBounds_toArray, erase_last]
  · rw [List.length_dropLast]
    omega
def rCat : R2 := fun x y H Q => ∃ l b xs zs, x = .ref l ∧ y = .ref b ∧ H l = some (.lst xs) ∧ H b = some (.lst zs) ∧ xs.length + zs.length ≤ sizeLine ∧ ∀ p, H p = none → Q (.ref p) (upd H p (.lst (xs ++ zs)))
theorem op_cat : OpR X (binaryOp .Add) rCat := by
  intro pins s σ H x y v u Q I rx ry h
  obtain ⟨l, b, xs, zs, rfl, rfl, hH, hB, hz, q⟩ := h
  cases rx
  cases ry
  obtain ⟨z, its, n, r, hl, e⟩ := I.lstM hH
  obtain ⟨z2, its2, n2, r2, hl2, e2⟩ := I.lstM hB
  refine PySem.P.add_list e e2 ?_ (by rw [List.size_toArray, List.size_toArray]; omega)
  have ea : its.toArray ++ its2.toArray = (its ++ its2).toArray := by simp
  rw [ea]
  exact ⟨.ref _, _, I.lnew (t' := s.toks) (r.append r2) (by rw [List.length_append]; omega), rfl, q _ I.fresh⟩
end
section
variable {prog : Program} {w : World} {A : Around} {E : Value → Shared → Prop} {s : Shared}
end
section
variable {X : Cx}
end
end L2
namespace Att
open PySem PySem.W PySem.Calls PyProof.Rows
theorem ints_of_wellAll {P : Params} {h : Heap} : ∀ (ns : List Int) (vs : List Value), WellAll P h vs (ns.map WData.int) → IntsAre vs ns := by
  intro ns
  induction ns with
  | nil =>
    intro vs w
    rw [List.map_nil] at w
    cases w
    exact .nil
  | cons n ns ih =>
    intro vs w
    rw [List.map_cons] at w
    cases w with
    | cons a b =>
      cases a
      exact .cons _ _ (ih _ b)
theorem script_of {l : OpenLaw} {n : Nat} (hn : l.most = some n) {P : Params} {h : Heap} {args : List WData} {vals : List Value}
    (hpre : l.row.toRowW.claim.pre args = true) (hwl : WellAll P h vals args) :
    ∃ a vs ns, vals = [Value.ref a] ∧ args = [WData.list (ns.map WData.int)] ∧ h.get? a = some { cls := .type "list", data := .seq vs.toArray } ∧ IntsAre vs ns ∧ ns.length ≤ n := by
  have hsh : WShape.hasAll [] args [.list .int] = true := (pre_splitW hpre).1
  have hc : l.pre.holds [] { args := args } = true := (pre_splitW hpre).2
  obtain ⟨d, r, rfl, h1, h2⟩ := hasAllW_cons hsh
  obtain rfl := hasAllW_nil h2
  obtain ⟨xs, rfl, h3⟩ := hasW_list h1
  obtain ⟨ns, rfl⟩ := items_int h3
  have hlen : ns.length ≤ n := by
    unfold OpenLaw.pre at hc
    have h4 : (WTm.not (.lt (.lit (.int (n : Int))) (.len (.arg 0)))).holds [] { args := [.list (ns.map .int)] } = true := by
      have h4 := (holds_andW hc).1
      rw [hn] at h4
      exact h4
    have h5 := condW_of h4 (w_not (w_lt w_lit (w_len_list (w_arg rfl))))
    rw [List.length_map] at h5
    refine Nat.le_of_not_lt fun q => ?_
    have q' : (n : Int) < ((ns.length : Nat) : Int) := by omega
    first
      | (rw [decide_eq_true q'] at h5; exact absurd h5 (by decide))
      | (simp at h5; omega)
  cases hwl with
  | cons w1 w2 =>
    cases w2
    cases w1 with
    | list ho hall => exact ⟨_, _, ns, rfl, rfl, ho, ints_of_wellAll ns _ hall, hlen⟩
theorem post_true (l : OpenLaw) (args : List WData) : l.row.toRowW.claim.post args (.bool true) args = true :=
  postW_of (r := l.row.toRowW) (X := (true == true))
    (show WShape.has [] (.bool true) .bool = true by first | rfl | decide | simp [WShape.has, WShape.arms, WShape.armsAll])
    (show (WTm.eq .res (.lit (.bool true))).value [] { args := args, res := some (.bool true), after := args } = some (.bool (true == true)) from w_eq_bool (w_res rfl) w_lit) rfl
section
variable {prog : Program} {w : World} {A : Around} {E : Value → Shared → Prop} {s : Shared} {K : Frag}
end
end Att
namespace L2
open PySem PySem.Spec PyProof.Rows
theorem vals_ints : ∀ {vs : List Value} {ns : List Int}, IntsAre vs ns → Vals (ns.map V.int) vs
  | _, _, .nil => .nil
  | _, _, .cons n t h => .cons ⟨t, rfl⟩ (vals_ints h)
def Only (H : Hp) : Prop := ∀ b, H b = none ∨ ∃ o xs, H b = some (.frz o (.lst xs))
theorem law_call {P : Program} {w : World} {K : PySem.W.Frag} {mg mb : Str → Option Value} {CX : CXT} {k : Nat} {fa a : Addr} {fd : FuncData} {x : Str} {sp : Sp} {s₁ : Shared} {vs : List Value} {ns : List Int}
    (KX : K.In s₁.heap) (hns : s₁.heap.Ns mainGlobals mg) (hb : s₁.heap.Ns builtinsNs mb) (hbb : ∀ x : Str, x ≠ "__name__" → mb x = bootBuiltins x) (hlim : s₁.heap.NoLimit) (hg : s₁.gens = #[])
    (ha : s₁.heap.get? a = some { cls := .type "list", data := .seq vs.toArray }) (hi : IntsAre vs ns) (hl : ns.length ≤ sizeLine) (hr : Room k callerA)
    (F : ∀ base : Heap, K.In base → base.Ns mainGlobals mg → FnOk P w K mg base CX k fa fd [x] sp) (hbind : ∀ (s : Shared) (u : Value), BindsTo s fd ⟨[u], []⟩ [(x, u)])
    (hsp : ∀ H : Hp, Only H → SqL K H a (ns.map V.int) → sp [.ref a] H (fun v _ => v = .bl true) fun _ _ _ => False)
    (hCX : ∀ H e s', CX [] H s₁ (fun _ _ _ => False) e s' → False) :
    codeAny (model P w) callerA (.call (.ref fa) ⟨[.ref a], []⟩) (fun r s' => r = .ok (.ret (.bool true)) ∧ OldK s₁.heap s'.heap ∧ s'.os = s₁.os ∧ AllBare s'.gens) s₁ := by
  have rv := vals_ints hi
  have lenV := hi.length
  have core : ∀ H : Hp, Only H → SqL K H a (ns.map V.int) → HOk P w H s₁.heap → (∀ b, H b ≠ none → b = a) → (H a ≠ none → K.lookup a = none) →
      codeAny (model P w) callerA (.call (.ref fa) ⟨[.ref a], []⟩) (fun r s' => r = .ok (.ret (.bool true)) ∧ OldK s₁.heap s'.heap ∧ s'.os = s₁.os ∧ AllBare s'.gens) s₁ := by
    intro H hO hS hok hA hK
    have base_of : ∀ {b : Addr} {o : Obj}, s₁.heap.get? b = some o → H b = none → (hidT s₁.heap H).get? b = some o := fun e n => hidT_get e n
    have noA : ∀ {b : Addr} {o : Obj} {es : Array DictEntry} {ep : Nat}, s₁.heap.get? b = some o → o.data = .dict es ep → H b = none := fun {b o es ep} e d => by
      cases q : H b with
      | none => rfl
      | some u =>
        have e' : b = a := hA b (by rw [q]; simp)
        subst e'
        rw [ha] at e; cases e
        have d' : Data.seq vs.toArray _ = Data.dict es ep := d
        cases d'
    have nsK : ∀ {b : Addr} {m : Str → Option Value}, s₁.heap.Ns b m → (hidT s₁.heap H).Ns b m := fun {b m} ⟨o, es, ep, e, d, r⟩ => ⟨o, es, ep, base_of e (noA e d), d, r⟩
    have hKb : K.In (hidT s₁.heap H) := fun b o e => base_of (KX b o e) (by
      cases q : H b with
      | none => rfl
      | some u =>
        have e' : b = a := hA b (by rw [q]; simp)
        subst e'
        rw [hK (by rw [q]; simp)] at e; cases e)
    have hM : Mod K mg (hidT s₁.heap H) := ⟨hKb, nsK hns, ⟨mb, nsK hb, hbb⟩, let ⟨mc, h1, h2⟩ := hlim; ⟨mc, nsK h1, h2⟩⟩
    have e0 : Env0 P w K mg (hidT s₁.heap H) callerA [] s₁ H := ⟨rfl, hM, fun b o e => of_hidT e, Nat.le_of_eq (hidT_size _ _), trivial, fun b hb => absurd (show b ∈ ([] : List Addr) from hb) (by simp), hok, .of_eq hg⟩
    refine codeAny_mono ((F _ hKb (nsK hns)).run callerA [] s₁ H ⟨[.ref a], []⟩ [.ref a] [.ref a] _ _ hr e0 (hbind s₁ (.ref a)) (.cons rfl .nil) (hsp H hO hS)) fun r s' h => ?_
    cases r with
    | error e => exact (hCX H e s' h).elim
    | ok fl =>
      cases fl with
      | next => exact False.elim h
      | brk => exact False.elim h
      | cont => exact False.elim h
      | ret u =>
        obtain ⟨v, H', os, bare, un, hok', r', q⟩ := h
        have q' : v = .bl true := q
        subst q'
        obtain rfl : u = Value.bool true := r'
        refine ⟨rfl, OldK.of_keep fun b o e => ?_, os, bare⟩
        cases q : H b with
        | none => exact un.keep b o e q (by intro z; exact absurd (show b ∈ ([] : List Addr) from z) (by simp)) (by simp)
        | some u =>
          rcases hO b with z | ⟨ob, xs, z⟩
          · rw [q] at z; cases z
          · have z2 := un.frzs b ob _ z
            obtain ⟨e1, _⟩ := hok b _ z
            obtain ⟨e2, _⟩ := hok' b _ z2
            rw [e] at e1; cases e1
            exact e2
  cases hk : K.lookup a with
  | some o =>
    have e := KX a o hk
    rw [ha] at e
    cases e
    refine core (fun _ => none) (fun _ => .inl rfl) (.inr ⟨_, vs.toArray, _, hk, rfl, rfl, rfl, by rw [List.size_toArray, lenV]; exact hl, by simpa using rv⟩) (fun b u z => by have z' : (none : Option HO) = some u := z; cases z') (fun b z => absurd rfl z) fun z => absurd rfl z
  | none =>
    refine core (fun b => if b = a then some (.frz { cls := .type "list", data := .seq vs.toArray } (.lst (ns.map V.int))) else none) (fun b => ?_) (.inl (.inr ⟨{ cls := .type "list", data := .seq vs.toArray }, if_pos rfl⟩)) (fun b u z => ?_) (fun b z => ?_) fun _ => hk
    · by_cases hb : b = a
      · exact .inr ⟨_, _, if_pos hb⟩
      · exact .inl (if_neg hb)
    · by_cases hb : b = a
      · have z' := (if_pos hb).symm.trans z
        cases z'
        subst hb
        exact ⟨ha, by rw [List.length_map]; exact hl, vs, _, rv, ha⟩
      · have z' := (if_neg hb).symm.trans z
        cases z'
    · by_cases hb : b = a
      · exact hb
      · exact absurd (if_neg hb) z
end L2
namespace L2
open PySem PySem.Spec PyProof.Rows
end L2
namespace L2
open PySem PySem.Spec PyProof.Rows
def defArgs (s : Stmt) : Arguments := match s with
  | .FunctionDef _ a _ _ _ _ _ _ _ _ => a
  | _ => { posonlyargs := [], args := [], vararg := none, kwonlyargs := [], kw_defaults := [], kwarg := none, defaults := [] }
def defBody (s : Stmt) : List Stmt := match s with
  | .FunctionDef _ _ b _ _ _ _ _ _ _ => b
  | _ => []
def defScope (s : Stmt) : Scope := match s with
  | .FunctionDef _ _ _ _ _ _ sc _ _ _ => sc
  | _ => { kind := .function, names := [], isGenerator := false, isCoroutine := false }
abbrev CX0 : CXT := fun _ _ _ _ _ _ => False
abbrev E0 : XK := fun _ _ _ => False
theorem pass0 {X : Cx} : Passes CX0 X E0 := fun _ _ _ _ _ _ _ h => h.elim
structure Fun (K : PySem.W.Frag) (x qual : Str) (st : Stmt) (f : Addr) (fd : FuncData) : Prop where
  ex : ∃ (oc : Value) (od : Option Addr) (kV doc pm : Value) (an : Option Addr) (cdv ct : Value) (osl : Array (Option Value)),
    fd = PySem.W.fnOf x qual (defArgs st) (defBody st) (defScope st) .none kV doc pm an cdv ct ∧ K.lookup f = some ⟨oc, od, .func fd, osl⟩ ∧ PySem.W.codeIn K cdv qual = true
  kp : PySem.W.keepIn K (.ref f) = true
section
variable {P : Program} {w : World} {K : PySem.W.Frag} {mg : Str → Option Value} {base : Heap}
theorem Fun.ok {x qual : Str} {st : Stmt} {f : Addr} {fd : FuncData} {N ps : List Str} {k : Nat} {sp : Sp} (F : Fun K x qual st f fd) (S : FnScope N ps (defScope st)) (len : ∀ vs H Q E, sp vs H Q E → vs.length = ps.length)
    (hbody : ∀ (cdv : Value) (A : Around) (outer : List Env) (s : Shared) (H : Hp) (vs : List V) (Q : VK) (E : XK), Room k (A.deeper (envOfC qual (defScope st) s.heap.objs.size f cdv)) → sp vs H Q E →
      ∃ t, PSs (cxOf CX0 P w K mg base N qual (defScope st) f cdv A outer s H E).nox (defBody st) t ∧ t { nx := fun _ H' => Q .non H', rt := Q } (start N vs) H) : FnOk P w K mg base CX0 (k + 1) f fd ps sp := by
  obtain ⟨oc, od, kV, doc, pm, an, cdv, ct, osl, rfl, lk, hcd⟩ := F.ex
  refine fn_of lk hcd S len fun A outer s H vs Q E hr hsp => ?_
  obtain ⟨t, h, q⟩ := hbody cdv A outer s H vs Q E hr hsp
  exact ⟨t, h.nox, q⟩
theorem Fun.binds {x qual : Str} {st : Stmt} {f : Addr} {fd : FuncData} {ps : List Str} (F : Fun K x qual st f fd)
    (h : ∀ (kV doc pm : Value) (an : Option Addr) (cdv ct : Value) (us : List Value), us.length = ps.length → bindArgs (PySem.W.fnOf x qual (defArgs st) (defBody st) (defScope st) .none kV doc pm an cdv ct) ⟨us, []⟩ = pure (ps.zip us)) : Binds K fd ps [] := by
  obtain ⟨oc, od, kV, doc, pm, an, cdv, ct, osl, rfl, lk, hcd⟩ := F.ex
  exact .all (h kV doc pm an cdv ct)
theorem fun_mk {x qual : Str} {st : Stmt} {f : Addr} {oc : Value} {od an : Option Addr} {osl : Array (Option Value)} {kV doc pm cdv ct : Value} (l : K.lookup f = some ⟨oc, od, .func (PySem.W.fnOf x qual (defArgs st) (defBody st) (defScope st) .none kV doc pm an cdv ct), osl⟩)
    (c : PySem.W.codeIn K cdv qual = true) (k : PySem.W.keepIn K (.ref f) = true) : Fun K x qual st f (PySem.W.fnOf x qual (defArgs st) (defBody st) (defScope st) .none kV doc pm an cdv ct) := ⟨⟨oc, od, kV, doc, pm, an, cdv, ct, osl, rfl, l, c⟩, k⟩
end
section
variable {X : Cx}
theorem pv (i : Nat) {x : Str} {pos : Pos} (hN : X.N[i]? = some x := by rfl) (hv : Vis X.env.scope x := by first | exact Or.inl rfl | exact Or.inr (Or.inl rfl) | exact Or.inr (Or.inr rfl)) (hd : (x == ("__debug__" : Str)) = false := by decide)
    (hcd : (x == ("__classdict__" : Str)) = false := by decide) : PE X (.Name x pos) (tVar i) := pe_var hN hv hd hcd
end
theorem iteF {A B : Prop} (h : B) : if false = true then A else B := by
  rw [if_neg Bool.false_ne_true]
  exact h
theorem iteT {A B : Prop} (h : A) : if true = true then A else B := by
  rw [if_pos rfl]
  exact h
theorem ite2 {c A B : Prop} [Decidable c] (h1 : c → A) (h2 : ¬ c → B) : if c then A else B := by
  by_cases h : c
  · rw [if_pos h]
    exact h1 h
  · rw [if_neg h]
    exact h2 h
theorem iteNS {c A B : Prop} [Decidable c] (hc : c) (h : B) : if (!decide c) = true then A else B := by
  rw [decide_eq_true hc]
  exact iteF h
def Same (H H' : Hp) : Prop := ∀ b o, H b = some o → H' b = some o
theorem Same.refl (H : Hp) : Same H H := fun _ _ h => h
theorem Same.trans {H H1 H2 : Hp} (a : Same H H1) (b : Same H1 H2) : Same H H2 := fun c o h => b c o (a c o h)
theorem Same.free {H H' : Hp} (e : Same H H') {l : Addr} (h : H' l = Option.none) : H l = Option.none := by
  cases q : H l with
  | none => rfl
  | some o =>
    rw [e l o q] at h
    cases h
theorem Same.seq {K : PySem.W.Frag} {H H' : Hp} {a : Addr} {xs : List V} (e : Same H H') (h : SqL K H a xs) : SqL K H' a xs := by
  rcases h with (h | ⟨o, h⟩) | h
  · exact .inl (.inl (e _ _ h))
  · exact .inl (.inr ⟨o, e _ _ h⟩)
  · exact .inr h
end L2
set_option maxHeartbeats 4000000
namespace Bk
open PySem PySem.W PySem.Spec PySem.Calls PyProof.Rows Builtin Builtin.ObjectAttr Builtin.Getset_descriptor
structure ExcK (K : Frag) (C : Addr) : Prop where
  cls : (clsIn K C).isSome = true
  ga : findIn K (.ref C) "__getattribute__" = some (some (.builtin "BaseException.__getattribute__"))
  gt : findIn K (.ref C) "__getattr__" = some none
  at_ : findIn K (.ref C) "__class__" = some (some (.builtin "object.__class__"))
  get : specialIn K (.builtin "object.__class__") "__get__" = some (some (.builtin "getset_descriptor.__get__"))
  tk : takesIn K (.builtin "object.__class__") = some true
  obj : mroIn K C (.type "object") = some true
  exc : mroIn K C (.type "BaseException") = some true
section
variable {prog : Program} {w : World} {A : Around} {E : Value → Shared → Prop} {s : Shared} {K : Frag} {x C : Addr}
end
end Bk
namespace L2
open PySem PySem.Spec PyProof.Rows
structure Aft (P : Program) (w : World) (l : List Env) (H H' : Hp) (s : Shared) (B h : Heap) : Prop where
  stays : B.StaysIn h
  hokB : HOk P w H' B
  kept : ∀ b o, s.heap.get? b = some o → H b = none → b ∉ frs l → B.get? b = some o
  thr : ∀ b o, s.heap.get? b = some o → b ∉ frs l → ∃ o', B.get? b = some o'
  slot : ∀ b o, s.heap.get? b = some o → b ∈ frs l → ∃ sl, h.get? b = some { o with slots := sl }
  free : ∀ b o, s.heap.get? b = some o → H b = none → H' b = none
  tups : ∀ b xs, H b = some (.tup xs) → H' b = some (.tup xs)
  frzs : ∀ b o u, H b = some (.frz o u) → H' b = some (.frz o u)
  tbls : ∀ b ps, H b = some (.tbl ps) → ∃ more, H' b = some (.tbl (ps ++ more))
section
variable {P : Program} {w : World} {l : List Env} {H H' : Hp} {s : Shared} {B h h' : Heap}
theorem Aft.un (a : Aft P w l H H' s B h) : Un (frs l) [] H H' s.heap h where
  keep := fun b o q n hb _ => a.stays b o (a.kept b o q n hb)
  slot := fun b o q _ hb _ => a.slot b o q hb
  free := fun b o q n _ => a.free b o q n
  there := fun b o q _ => by
    by_cases hb : b ∈ frs l
    · obtain ⟨sl, e⟩ := a.slot b o q hb
      exact ⟨_, e⟩
    · obtain ⟨o', e⟩ := a.thr b o q hb
      exact ⟨o', a.stays b o' e⟩
  tups := a.tups
  frzs := a.frzs
  tbls := a.tbls
theorem Aft.hok (a : Aft P w l H H' s B h) : HOk P w H' h := a.hokB.kept fun b o e => a.stays b o e
theorem Aft.next (a : Aft P w l H H' s B h) (k : B.StaysIn h') (hl : h.FunFrames B l) (u : h.UpToSlots h') : Aft P w l H H' s B h' where
  stays := k
  hokB := a.hokB
  kept := a.kept
  thr := a.thr
  slot := fun b o q hb => by
    obtain ⟨sl, e⟩ := a.slot b o q hb
    obtain ⟨_, o', e', nf⟩ := hl.mem hb
    rw [e] at e'
    cases e'
    obtain ⟨sl', z⟩ := u b _ e nf
    exact ⟨sl', z⟩
  free := a.free
  tups := a.tups
  frzs := a.frzs
  tbls := a.tbls
end
structure Flew (P : Program) (w : World) (l : List Env) (H H' : Hp) (s s' : Shared) (e : Addr) (cls : Value) : Prop where
  os : s'.os = s.os
  bare : AllBare s'.gens
  fly : ∃ B a0, Heap.FlyingW B l e cls a0 s'.heap ∧ Aft P w l H H' s B s'.heap
  new : s.heap.get? e = none
  untr : H' e = none
def CXb (P : Program) (w : World) : CXT := fun outer H s E x s' => ∃ e C H', x = .ref e ∧ Flew P w outer H H' s s' e (.ref C) ∧ E (.ref C) none H'
theorem ObjOk.some {P : Program} {w : World} {H : Hp} {h : Heap} {a : Addr} {o : HO} (x : ObjOk P w H h a o) : ∃ u, h.get? a = some u := by
  cases o with
  | lst xs => obtain ⟨_, _, _, _, e⟩ := x; exact ⟨_, e⟩
  | tup xs => obtain ⟨_, _, _, ob, e, _⟩ := x; exact ⟨_, e⟩
  | dK kvs => obtain ⟨_, _, _, _, o, _, _, e, _⟩ := x; exact ⟨_, e⟩
  | dT kvs => obtain ⟨_, _, _, _, o, _, _, e, _⟩ := x; exact ⟨_, e⟩
  | set S n => obtain ⟨o, _, _, _, e, _⟩ := x; exact ⟨_, e⟩
  | ins C dx fs => obtain ⟨_, _, _, e, _⟩ := x; exact ⟨_, e⟩
  | own y => exact x
  | xd fs => obtain ⟨_, ⟨_, _, _, e, _⟩, _⟩ := x; exact ⟨_, e⟩
  | rng lo hi => obtain ⟨_, _, _, e⟩ := x; exact ⟨_, e⟩
  | frz ob u => obtain ⟨e, _⟩ := x; exact ⟨_, e⟩
  | tbl ps => exact ⟨_, x⟩
  | met f y => exact ⟨_, x⟩
  | ext φ => obtain ⟨_, e, _⟩ := x; exact e
section
variable {P : Program} {w : World} {K : PySem.W.Frag} {mg : Str → Option Value} {base : Heap} {N : List Str} {qual : Str} {scope : Scope} {f : Addr} {cd : Value} {A : Around} {outer : List Env} {s : Shared} {H : Hp} {E : XK}
def Raises (X : Cx) (E : XK) : Prop := ∀ (pins : List (Addr × Obj)) (σ : St) (H : Hp) (s : Shared) (e C : Addr) (args : List Value) (h' : Heap), Inv X pins σ H s → Heap.MadeExcOf s.heap h' e (.ref C) args → E (.ref C) none H → X.xe (.ref e) { s with heap := h' }
theorem mem_frs {env : Env} {l : List Env} {b : Addr} (h : b ∈ frs (env :: l)) : env.frame = some b ∨ b ∈ frs l := by
  obtain ⟨v, hv, hf⟩ := List.mem_filterMap.mp h
  rcases List.mem_cons.mp hv with rfl | hv
  · exact .inl hf
  · exact .inr (List.mem_filterMap.mpr ⟨v, hv, hf⟩)
theorem frs_mem {env : Env} {l : List Env} {b : Addr} (h : b ∈ frs l) : b ∈ frs (env :: l) := by
  obtain ⟨v, hv, hf⟩ := List.mem_filterMap.mp h
  exact List.mem_filterMap.mpr ⟨v, List.mem_cons_of_mem _ hv, hf⟩
theorem raises_fn : Raises (cxOf (CXb P w) P w K mg base N qual scope f cd A outer s H E) E := by
  intro pins σ H1 s1 e C args h' I m q
  have stk : (cxOf (CXb P w) P w K mg base N qual scope f cd A outer s H E).stack = envOfC qual scope s.heap.objs.size f cd :: outer := rfl
  have st := I.stack
  rw [stk] at st
  have stF := I.stkFree
  rw [stk] at stF
  have old : ∀ b o, s.heap.get? b = some o → b ∉ frs outer → b ∉ frs (envOfC qual scope s.heap.objs.size f cd :: outer) := fun b o e1 n hm => by
    rcases mem_frs hm with z | z
    · have z' : some s.heap.objs.size = some b := z
      cases z'
      exact absurd (Heap.lt_size e1) (Nat.lt_irrefl _)
    · exact n z
  have hin : ∀ env ∈ (envOfC qual scope s.heap.objs.size f cd :: outer), ∀ a, env.frame = some a → a ∈ frs (envOfC qual scope s.heap.objs.size f cd :: outer) := fun env he a ha => List.mem_filterMap.mpr ⟨env, he, ha⟩
  refine wpAny_leaves_madeW (base := PySem.W.hideAll s1.heap (frs (envOfC qual scope s.heap.objs.size f cd :: outer))) (h := s1.heap) I.ok.frames rfl (fun b o z => PySem.W.of_hideAll _ z) (PySem.W.funFrames_hide st hin) m fun h3 t fl _ _ up => ?_
  have k3 : (PySem.W.hideAll s1.heap (frs (envOfC qual scope s.heap.objs.size f cd :: outer))).StaysIn h3 := fl.1
  refine ⟨e, C, H1, rfl, ⟨I.os, I.bare, ⟨_, _, fl, ⟨k3, fun a u z => ?_, fun b o e1 n nf => ?_, fun b o e1 nf => ?_, fun b o e1 hb => ?_, fun b o e1 n => I.base.free b o e1 n (fun z => nomatch z), I.base.tups, I.base.frzs, I.base.tbls⟩⟩, ?_, ?_⟩, q⟩
  · refine (I.hok a u z).stay (fun b v hb e2 => PySem.W.hideAll_get _ e2 fun hm => ?_) (fun _ z => z) fun _ _ z => z
    have hn := stF b hm
    rcases hb with rfl | hb
    · rw [hn] at z; cases z
    · rw [hn] at hb; cases hb
  · exact PySem.W.hideAll_get _ (I.base.keep b o e1 n nf (fun z => nomatch z)) (old b o e1 nf)
  · obtain ⟨o', e2⟩ := I.base.there b o e1 (fun z => nomatch z)
    exact ⟨o', PySem.W.hideAll_get _ e2 (old b o e1 nf)⟩
  · obtain ⟨sl, e2⟩ := I.base.slot b o e1 (I.ok.frf b hb) hb (fun z => nomatch z)
    obtain ⟨_, ob, e3, nf⟩ := st.mem (frs_mem hb)
    rw [e2] at e3
    cases e3
    obtain ⟨sl', e4⟩ := up b _ (m.keeps b _ e2) nf
    exact ⟨sl', e4⟩
  · cases z : s.heap.get? e with
    | none => rfl
    | some o =>
      obtain ⟨o', e2⟩ := I.base.there e o z (fun z => nomatch z)
      rw [m.new] at e2; cases e2
  · cases z : H1 e with
    | none => rfl
    | some o =>
      obtain ⟨u, e2⟩ := (I.hok e o z).some
      rw [m.new] at e2; cases e2
end
theorem Fun.okx {P : Program} {w : World} {K : PySem.W.Frag} {mg : Str → Option Value} {base : Heap} {x qual : Str} {st : Stmt} {f : Addr} {fd : FuncData} {N ps : List Str} {k : Nat} {sp : Sp} (F : Fun K x qual st f fd) (S : FnScope N ps (defScope st))
    (len : ∀ vs H Q E, sp vs H Q E → vs.length = ps.length)
    (hbody : ∀ (cdv : Value) (A : Around) (outer : List Env) (s : Shared) (H : Hp) (vs : List V) (Q : VK) (E : XK), Room k (A.deeper (envOfC qual (defScope st) s.heap.objs.size f cdv)) → sp vs H Q E →
      ∃ t, PSs (cxOf (CXb P w) P w K mg base N qual (defScope st) f cdv A outer s H E) (defBody st) t ∧ t { nx := fun _ H' => Q .non H', rt := Q } (start N vs) H) : FnOk P w K mg base (CXb P w) (k + 1) f fd ps sp := by
  obtain ⟨oc, od, kV, doc, pm, an, cdv, ct, osl, rfl, lk, hcd⟩ := F.ex
  exact fn_of lk hcd S len fun A outer s H vs Q E hr hsp => hbody cdv A outer s H vs Q E hr hsp
def tRaise (E : XK) (C : Addr) (t : TA) : TS := fun _ σ H => t σ H fun us H1 => us.length ≤ sizeLine ∧ E (.ref C) none H1
theorem exc_there {K : PySem.W.Frag} {C : Addr} {bmB : List Value} {newId : String} (q : PySem.W.excIn K C bmB newId = true) :
    ∃ bm N nm qn bs hd sn sub ab col dd k0 k1 k2 k3 k5, K.lookup C = some (excClassObj nm qn C N bs bm hd sn sub ab col dd k0 k1 k2 k3 k5 newId) ∧ PySem.W.tailIn K bmB bm = true ∧ PySem.W.nsOkIn K N = true ∧ PySem.W.nsIn K N "__init__" = some none := by
  unfold PySem.W.excIn at q
  split at q
  · rename_i dd cd sl ho
    split at q
    · rename_i C' bm k0 k1 k2 k3 n k5 hm hs
      simp only [Bool.and_eq_true, beq_iff_eq, Bool.not_eq_true'] at q
      obtain ⟨⟨⟨⟨⟨e1, e2⟩, e3⟩, e4⟩, e5⟩, e6⟩ := q
      subst e1 e2
      obtain ⟨nm, bs, mro, ns, qn, hd, sn, sub, ab, col, del⟩ := cd
      dsimp only at hm e3 e5 e6
      subst hm e3
      have es : sl = #[k0, k1, k2, k3, some (.builtin n), k5] := by
        rw [← Array.toList_inj, hs]
      subst es
      exact ⟨bm, ns, nm, qn, bs, hd, sn, sub, ab, col, dd, k0, k1, k2, k3, k5, ho, e4, e5, e6⟩
    · cases q
  · cases q
section
variable {X : Cx} {x : Str} {C : Addr} {np cpos pos : Pos} {e : Expr} {es : List Expr} {t : TA} {E : XK}
theorem ps_raise (R : Raises X E) (hc : X.calm = true) (hg : Gl X x) (hm : X.mg x = some (.ref C)) (q : PySem.W.excIn X.K C [.type "ValueError", .type "Exception", .type "BaseException", .type "object"] "ValueError.__new__" = true) (ha : PA X (e :: es) t)
    (hdb : (x == ("__debug__" : Str)) = false := by decide) (hpl : (backTo cpos (starEach (e :: es) X.env)).any (·.1) = false := by rfl)
    (he : starEach (e :: es) X.env = (false, eval e X.env) :: starEach es X.env := by rfl) :
    PS X (.Raise (some (.Call (.Name x np) (e :: es) [] cpos)) none pos) (tRaise E C t) := by
  intro pins s σ H D I h
  obtain ⟨bm, N, nm, qn, bs, hd, sn, sub, ab, col, dd, k0, k1, k2, k3, k5, lk, e4, e5, e6⟩ := exc_there q
  have T0 := PySem.W.tail_of_in I.kIn e4
  have hA := ha cpos pins s σ H _ I h
  rw [he] at hA
  refine wpAny_Raise_call_subU (C := C) (nm := nm) (q := qn) (N := N) (bs := bs) (bm := bm) (hdct := hd) (sn := sn) (sub := sub) (ab := ab) (col := col) (dd := dd) (k0 := k0) (k1 := k1) (k2 := k2) (k3 := k3) (k5 := k5) (mN := s.heap.nsMap N)
    PySem.F.excBase_ValueError (by decide +kernel) PySem.F.excBase_ValueError (T0.hasType (by decide +kernel)) (I.ok.hd hc) hpl (PySem.W.nsMap_none_of_in I.kIn e5 e6) (ld_glob I hg hm ⟨rfl, ?_⟩ hdb)
  rw [he]
  refine Calls.evalArgs_plain (thn hA fun us s2 ⟨vs, H2, I2, r2, z, q2⟩ => ?_)
  refine ⟨rfl, by rw [← r2.length]; exact z, I2.kIn _ _ lk, ?_, PySem.W.tail_of_in I2.kIn e4, fun h' ea m => R pins σ H2 s2 ea C us h' I2 m q2⟩
  have nn : s2.heap.Ns N (s2.heap.nsMap N) := .of_isNs (PySem.W.isNs_of_in I2.kIn e5)
  have eq : s2.heap.nsMap N = s.heap.nsMap N := by
    unfold PySem.W.nsOkIn at e5
    split at e5
    · rename_i lkN
      unfold Heap.nsMap
      rw [I2.kIn _ _ lkN, I.kIn _ _ lkN]
    · cases e5
  rw [← eq]
  exact nn
end
end L2
namespace L2
open PySem PySem.Spec PyProof.Rows
def XP (X : Cx) (pins : List (Addr × Obj)) (Dx : Value → St → Hp → Prop) (x : Value) (s' : Shared) : Prop :=
  ∃ e C σ H s H', x = .ref e ∧ Inv X pins σ H s ∧ Flew X.prog X.w X.stack H H' s s' e (.ref C) ∧ Dx (.ref C) σ H'
abbrev TEx := St → Hp → VK → (Value → Hp → Prop) → Prop
abbrev TSx := Ends → (Value → St → Hp → Prop) → St → Hp → Prop
def PEx (X : Cx) (e : Expr) (t : TEx) : Prop :=
  ∀ (pins : List (Addr × Obj)) (s : Shared) (σ : St) (H : Hp) (Q : VK) (Ex : Value → Hp → Prop), Inv X pins σ H s → t σ H Q Ex → wpAny (model X.prog X.w) X.A (eval e X.env) (EP X pins σ Q) (XP X pins fun C σ' H' => σ' = σ ∧ Ex C H') s
def PX (X : Cx) (st : Stmt) (t : TSx) : Prop :=
  ∀ (pins : List (Addr × Obj)) (s : Shared) (σ : St) (H : Hp) (D : Ends) (Dx : Value → St → Hp → Prop), Inv X pins σ H s → t D Dx σ H → wpAny (model X.prog X.w) X.A (exec st X.env) (SP X pins D) (XP X pins Dx) s
def PXs (X : Cx) (st : List Stmt) (t : TSx) : Prop :=
  ∀ (pins : List (Addr × Obj)) (s : Shared) (σ : St) (H : Hp) (D : Ends) (Dx : Value → St → Hp → Prop), Inv X pins σ H s → t D Dx σ H → wpAny (model X.prog X.w) X.A (execs st X.env) (SP X pins D) (XP X pins Dx) s
section
variable {X : Cx} {st : Stmt} {rest : List Stmt} {t u : TSx} {e : Expr} {te : TEx} {pos : Pos}
theorem pxs_one (h1 : PX X st t) : PXs X [st] t := by
  intro pins s σ H D Dx I h
  refine wpAny_execs_cons (thn (h1 pins s σ H D Dx I h) fun f s1 q => ?_)
  cases f with
  | next => exact wpAny_execs_nil q
  | ret v => exact q
  | brk => exact q
  | cont => exact q
def xSet (i : Nat) (te : TEx) : TSx := fun D Dx σ H => te σ H (fun v H1 => D.nx (σ.set i (some v)) H1) fun C H1 => Dx C σ H1
theorem px_set {i : Nat} {x : Str} {pos' : Pos} (hN : X.N.Nodup) (hi : X.N[i]? = some x) (hx : Loc X.env.scope x) (he : PEx X e te) (hs : swapsWith e (some (.Name x pos')) pos.line X.env = pure false := by rfl)
    (hf : X.fn x = true ∨ X.env.scope.names.lookup x = some .local := by first | exact .inl rfl | exact .inr rfl | assumption) : PX X (.Assign [.Name x pos'] e pos) (xSet i te) := by
  intro pins s σ H D Dx I h
  refine wpAny_Assign_Name (wpAny_mono (he pins s σ H _ _ I h) (fun v s1 ⟨y, H1, I1, r1, q1⟩ => ?_) fun x' s' z => ?_) hs
  · exact store_ok I1 hN hi hx r1 (fun s2 I2 => ⟨_, H1, I2, q1⟩) hf
  · obtain ⟨a, C, σ', H0, s0, H', e1, I0, F, rfl, q⟩ := z
    exact ⟨a, C, σ', H0, s0, H', e1, I0, F, q⟩
def xCall (sp : Sp) (dvs : List V) (t : TA) : TEx := fun σ H Q Ex => t σ H fun vs H1 => sp (vs ++ dvs) H1 Q fun C _ H2 => Ex C H2
theorem pex_call {k : Nat} {f : Addr} {fd : FuncData} {ps : List Str} {sp : Sp} {dvs : List V} {ds : List Value} {x : Str} {p : Pos} {es : List Expr} {ta : TA}
    (F : FnOk X.prog X.w X.K X.mg X.base (CXb X.prog X.w) k f fd ps sp) (hr : Room k X.A) (hg : Gl X x) (hm : X.mg x = some (.ref f)) (hk : PySem.W.keepIn X.K (.ref f) = true) (hb : Binds X.K fd ps ds) (hd : Vals dvs ds)
    (ha : PA X.nox (e :: es) ta) (hdb : (x == ("__debug__" : Str)) = false := by decide) (he : starEach (e :: es) X.env = (false, eval e X.env) :: starEach es X.env := by rfl) (hpl : (backTo pos (starEach es X.env)).any (·.1) = false := by rfl) :
    PEx X (.Call (.Name x p) (e :: es) [] pos) (xCall sp dvs ta) := by
  intro pins s σ H Q Ex I h
  refine wpAny_Call_Name_kw (ld_glob I hg hm ?_ hdb)
  refine PySem.W.callWith_K (h₀ := X.base) I.ok.mod.kin hk (wpAny_mono (ha pos pins s σ H _ (I.wish _) h) (fun us s1 ⟨vs, H1, I1, r, q⟩ => ⟨I1.kIn, ?_⟩) fun _ _ z => False.elim z) he hpl
  have I2 : Inv X pins σ H1 s1 := I1.unwish
  have r2 : Vals (vs ++ dvs) (us ++ ds) := r.append hd
  have hl : (us ++ ds).length = ps.length := by rw [← r2.length]; exact F.len _ _ _ _ q
  refine wpAny_call (codeAny_mono (F.run X.A X.stack s1 H1 ⟨us, []⟩ (us ++ ds) (vs ++ dvs) Q _ hr I2.env0 (hb s1 us I2.kIn hl) r2 q) fun r s' hq => ?_)
  cases r with
  | error x' =>
    obtain ⟨a, C, H', e1, Fl, z⟩ := hq
    exact ⟨a, C, σ, H1, s1, H', e1, I2, Fl, rfl, z⟩
  | ok fl =>
    cases fl with
    | ret u => exact I2.after hq
    | next => exact False.elim hq
    | brk => exact False.elim hq
    | cont => exact False.elim hq
end
def Cx.caught (X : Cx) (e : Addr) (oe : Obj) : Cx := { X with A := X.A.mark (some (.ref e)), calm := false, pn := (e, oe) :: X.pn, xe := fun _ _ => False }
theorem Inv.caught {X : Cx} {σ : St} {H H' : Hp} {s s' : Shared} {e : Addr} {oe : Obj} {pins : List (Addr × Obj)} (I : Inv X pins σ H s) (os : s'.os = s.os) (bare : AllBare s'.gens) (un : Un (frs X.stack) [] H H' s.heap s'.heap) (hok : HOk X.prog X.w H' s'.heap)
    (he : s'.heap.get? e = some oe) (hn : s.heap.get? e = none) (hu : H' e = none) (hc : ∀ v, oe.data ≠ .cell v) (hst : X.stack = X.env :: X.outer) : Inv (X.caught e oe) pins σ H' s' := by
  have J : Inv X pins σ H' s' := I.call' os un hok bare (fun b z => absurd z (by simp))
  have ne : e ≠ X.env.locals := fun z => by
    obtain ⟨m, ⟨o, _, _, ho, _⟩, _⟩ := I.loc
    rw [← z, hn] at ho; cases ho
  have nf : e ∉ X.fs := fun z => by
    obtain ⟨_, o, ho, _⟩ := I.funs.mem z
    rw [hn] at ho; cases ho
  have ok := J.ok
  refine ⟨⟨ok.mod, ok.kind, ok.glob, ok.blt, ok.above, ok.inj, ok.has, ok.cab, (fun z => by cases z), ok.frames, ok.stk, ok.exf, ok.bs, ok.bsz, ok.noex, ok.exfs, ok.funs, ok.frf⟩, J.os, J.bare, J.base, J.loc, J.cell, J.free, J.freeC, fun p hp => ?_, J.hok, J.len⟩
  have hp' : p = (e, oe) ∨ p ∈ X.pn ++ pins := by
    have z : p ∈ (e, oe) :: (X.pn ++ pins) := hp
    exact List.mem_cons.mp z
  rcases hp' with rfl | hp'
  · exact ⟨he, hu, ne, nf, hc⟩
  · exact J.pin p hp'
theorem Inv.uncaught {X : Cx} {σ : St} {H : Hp} {s : Shared} {e : Addr} {oe : Obj} {pins : List (Addr × Obj)} (ok : X.Ok) (J : Inv (X.caught e oe) pins σ H s) : Inv X pins σ H s :=
  ⟨ok, J.os, J.bare, J.base, J.loc, J.cell, J.free, J.freeC, fun p hp => J.pin p (List.mem_cons_of_mem (e, oe) hp), J.hok, J.len⟩
section
variable {X : Cx} {body suite : List Stmt} {b₀ : Stmt} {t : TSx} {ts : Addr → Obj → TS} {c n : Str} {c₀ : Value} {i : Nat} {np hpos pos : Pos}
end
end L2
namespace L2
open PySem PySem.Spec PyProof.Rows
def eqVs : List V → List V → Bool
  | [], [] => true
  | x :: xs, y :: ys => eqV x y && eqVs xs ys
  | _, _ => false
theorem eqVs_len : ∀ {xs ys : List V}, xs.length ≠ ys.length → eqVs xs ys = false
  | [], [], h => absurd rfl h
  | [], _ :: _, _ => rfl
  | _ :: _, [], _ => rfl
  | x :: xs, y :: ys, h => by
    show (eqV x y && eqVs xs ys) = false
    rw [eqVs_len (fun z => h (by simp [z]))]
    simp
def eqAtJ (xs ys : List V) (j : Nat) : Bool := eqV (xs.getD j .non) (ys.getD j .non)
theorem eqVs_all : ∀ {xs ys : List V}, xs.length = ys.length → (List.range xs.length).all (eqAtJ xs ys) = eqVs xs ys
  | [], [], _ => rfl
  | [], _ :: _, h => by simp at h
  | _ :: _, [], h => by simp at h
  | x :: xs, y :: ys, h => by
    have ih := eqVs_all (xs := xs) (ys := ys) (by simpa using h)
    rw [List.length_cons, List.range_succ_eq_map, List.all_cons, List.all_map]
    show (eqV x y && _) = (eqV x y && eqVs xs ys)
    rw [← ih]
    rfl
theorem eqVs_refl : ∀ {xs : List V}, xs.all flatV = true → eqVs xs xs = true
  | [], _ => rfl
  | x :: xs, h => by
    rw [List.all_cons, Bool.and_eq_true] at h
    show (eqV x x && eqVs xs xs) = true
    rw [eqVs_refl h.2, Bool.and_true]
    cases x with
    | non => rfl
    | bl b => exact beq_self_eq_true b
    | int i => exact beq_self_eq_true i
    | str i => exact beq_self_eq_true i
    | _ => exact absurd h.1 Bool.false_ne_true
section
variable {X : Cx}
theorem items_eqAt {A : Around} {s : Shared} {xs ys : List V} {us ws : List Value} (r : Vals xs us) (r' : Vals ys ws) (f : xs.all flatV = true) (f' : ys.all flatV = true) (j : Nat) (h1 : j < us.toArray.size) (h2 : j < ws.toArray.size) :
    SeqAt.EqAt A s us.toArray[j] ws.toArray[j] (eqAtJ xs ys j) := by
  have l1 : j < xs.length := by rw [r.length]; simpa using h1
  have l2 : j < ys.length := by rw [r'.length]; simpa using h2
  obtain ⟨u, e1, q1⟩ := r.get (i := j) (x := xs[j]) (List.getElem?_eq_getElem l1)
  obtain ⟨w, e2, q2⟩ := r'.get (i := j) (x := ys[j]) (List.getElem?_eq_getElem l2)
  have a1 : us.toArray[j] = u := by
    have := (List.getElem?_eq_some_iff.mp e1).2
    simpa using this
  have a2 : ws.toArray[j] = w := by
    have := (List.getElem?_eq_some_iff.mp e2).2
    simpa using this
  rw [a1, a2]
  have g1 : xs.getD j .non = xs[j] := by simp [List.getD_eq_getElem?_getD, l1]
  have g2 : ys.getD j .non = ys[j] := by simp [List.getD_eq_getElem?_getD, l2]
  unfold eqAtJ
  rw [g1, g2]
  exact eqAt_V q1 q2 (List.all_eq_true.mp f _ (List.getElem_mem l1)) (List.all_eq_true.mp f' _ (List.getElem_mem l2))
def rEqL (K : PySem.W.Frag) (neg : Bool) : R2 := fun x y H Q => ∃ a b xs ys, x = .ref a ∧ y = .ref b ∧ SqL K H a xs ∧ SqL K H b ys ∧ xs.all flatV = true ∧ ys.all flatV = true ∧ Q (.bl (if neg then !eqVs xs ys else eqVs xs ys)) H
theorem op_eqL (hu : X.A.units < cLine) : OpR X (compareOp .Eq) (rEqL X.K false) := by
  intro pins s σ H x y v u Q I rx ry h
  obtain ⟨a, b, xs, ys, rfl, rfl, ha, hb, fx, fy, q⟩ := h
  cases rx
  cases ry
  obtain ⟨us, r, pl, _⟩ := I.list ha
  obtain ⟨ws, r', pl', _⟩ := I.list hb
  by_cases hl : xs.length = ys.length
  · have hz : us.toArray.size = ws.toArray.size := by simp only [List.size_toArray]; rw [← r.length, ← r'.length, hl]
    refine SeqAt.eq_listAt (e := eqAtJ xs ys) pl.isList pl'.isList hz hu (fun j h1 h2 => items_eqAt r r' fx fy j h1 h2) ⟨.bl (eqVs xs ys), H, I, ?_, q⟩
    show Value.bool _ = Value.bool _
    rw [List.size_toArray, ← r.length, eqVs_all hl]
  · have hz : (us.toArray.size != ws.toArray.size) = true := by
      simp only [List.size_toArray]; rw [← r.length, ← r'.length]; exact bne_iff_ne.mpr hl
    refine SeqAt.eq_list_lengthsAt pl.isList pl'.isList hz hu ⟨.bl (eqVs xs ys), H, I, ?_, q⟩
    show Value.bool _ = Value.bool _
    rw [eqVs_len hl]
def rEqT (K : PySem.W.Frag) : R2 := fun x y H Q => ∃ a b xs ys, x = .ref a ∧ y = .ref b ∧ SqT K H a xs ∧ SqT K H b ys ∧ xs.length = ys.length ∧ xs.all flatV = true ∧ ys.all flatV = true ∧ Q (.bl (eqVs xs ys)) H
theorem op_eqT (hu : X.A.units < cLine) : OpR X (compareOp .Eq) (rEqT X.K) := by
  intro pins s σ H x y v u Q I rx ry h
  obtain ⟨a, b, xs, ys, rfl, rfl, ha, hb, hl, fx, fy, q⟩ := h
  cases rx
  cases ry
  obtain ⟨us, r, pl, _⟩ := I.tuple ha
  obtain ⟨ws, r', pl', _⟩ := I.tuple hb
  have hz : us.toArray.size = ws.toArray.size := by simp only [List.size_toArray]; rw [← r.length, ← r'.length, hl]
  refine SeqAt.eq_tupleAt (e := eqAtJ xs ys) pl pl' hu (fun j h1 h2 => items_eqAt r r' fx fy j h1 h2) ⟨.bl (eqVs xs ys), H, I, ?_, q⟩
  show Value.bool _ = Value.bool _
  rw [← hz, Nat.min_self, beq_self_eq_true, Bool.and_true, List.size_toArray, ← r.length, eqVs_all hl]
def cVal : V → Option Value
  | .ref a => some (.ref a)
  | .ty n => some (.type n)
  | _ => none
theorem cVal_rel {c : V} {k u : Value} (e : cVal c = some k) (r : RelV c u) : u = k := by
  cases c with
  | ref a => cases e; exact r
  | ty n => cases e; exact r
  | _ => cases e
theorem call_isinst : CallR X (.builtin "isinstance") (fun xs H Q => ∃ x c t k b, xs = [x, c] ∧ TyOf X.K H x t ∧ cVal c = some k ∧ PySem.W.kitOne X.K t k = some b ∧ Q (.bl b) H) := by
  intro pins s σ H xs us Q I r h
  obtain ⟨x, c, t, k, b, rfl, ty, ck, e, q⟩ := h
  obtain ⟨u, w, rfl, ru, rw'⟩ := vals2 r
  obtain rfl := cVal_rel ck rw'
  exact isinst_ok I ru ty e fun tk => ⟨.bl b, H, I.tok tk, rfl, q⟩
end
end L2
namespace L2
open PySem PySem.Spec PyProof.Rows
structure Dv (K : PySem.W.Frag) (mg : Str → Option Value) (x : Str) (st : Stmt) (ps : List Str) where
  f : Addr
  fd : FuncData
  F : Fun K x x st f fd
  b : Binds K fd ps []
  m : mg x = some (.ref f)
section
variable {X : Cx} {x : Str} {st : Stmt} {ps : List Str} {CX : CXT} {k : Nat} {sp : Sp} {E : XK} {p pos : Pos} {e : Expr} {es : List Expr} {t : TA}
end
def cell (ns : List Int) (k : Int) : Int := if k < (ns.length : Int) then ns.getD k.toNat 0 else 0
theorem at_cell {ns : List Int} {k : Int} (h0 : 0 ≤ k) (h : k < (ns.length : Int)) : atI (ns.map V.int) k = some (V.int (ns.getD k.toNat 0)) := by
  have hk : k.toNat < ns.length := by omega
  have e : k = ((k.toNat : Nat) : Int) := by omega
  rw [e]
  refine atI_nat ?_
  rw [List.getElem?_map, Int.toNat_natCast]
  simp [List.getD_eq_getElem?_getD, hk]
end L2
namespace L2
open PySem PySem.Spec PyProof.Rows
theorem PS.calm {X : Cx} {st : Stmt} {t : TS} (h : PS X.nox st t) : PS X st t := fun pins s σ H D I hw =>
  wpAny_mono (h pins s σ H D (I.wish _) hw) (fun _ _ q => q.unwish) fun _ _ z => False.elim z
def closStep (env : Env) (p : Str × NameKind) (cs : List (Str × Addr)) : List (Str × Addr) := if (p.2 == NameKind.free) = true then (p.1, (env.cells.lookup p.1).getD 0) :: cs else cs
theorem forIn_fold {α β : Type} {f : α → β → Sem (ForInStep β)} {g : α → β → β} : ∀ {l : List α} (c : β), (∀ x ∈ l, ∀ c, f x c = pure (.yield (g x c))) → forIn l c f = pure (l.foldl (fun c x => g x c) c)
  | [], _, _ => rfl
  | x :: l, c, h => by
    rw [List.forIn_cons, h x List.mem_cons_self, pure_bind]
    exact forIn_fold _ fun y hy => h y (List.mem_cons_of_mem _ hy)
theorem clos_fold {env : Env} : ∀ {ns : List (Str × NameKind)} {cs : List (Str × Addr)}, (∀ p ∈ ns, p.2 = .free → ∃ c, env.cells.lookup p.1 = some c) → (∀ y c, cs.lookup y = some c → env.cells.lookup y = some c) →
    (∀ y c, (ns.foldl (fun c x => closStep env x c) cs).lookup y = some c → env.cells.lookup y = some c) ∧ ∀ y, ((y, NameKind.free) ∈ ns ∨ ∃ c, cs.lookup y = some c) → ∃ c, (ns.foldl (fun c x => closStep env x c) cs).lookup y = some c
  | [], cs, _, h => ⟨h, fun y z => z.elim (fun z => nomatch z) id⟩
  | p :: ns, cs, hf, h => by
    have step : ∀ y c, (closStep env p cs).lookup y = some c → env.cells.lookup y = some c := fun y c e => by
      unfold closStep at e
      by_cases hp : (p.2 == NameKind.free) = true
      · rw [if_pos hp, List.lookup_cons] at e
        obtain ⟨c', ec⟩ := hf p List.mem_cons_self (by simpa using hp)
        split at e
        · rename_i q
          have q' : y = p.1 := by simpa using q
          rw [ec] at e
          have e' : c' = c := Option.some.inj e
          rw [q', ec, e']
        · exact h y c e
      · rw [if_neg hp] at e
        exact h y c e
    obtain ⟨h1, h2⟩ := clos_fold (ns := ns) (cs := closStep env p cs) (fun q hq => hf q (List.mem_cons_of_mem _ hq)) step
    refine ⟨h1, fun y z => h2 y ?_⟩
    rcases z with z | ⟨c, z⟩
    · rcases List.mem_cons.mp z with z | z
      · refine .inr ?_
        unfold closStep
        rw [← z]
        simp [List.lookup_cons]
      · exact .inl z
    · refine .inr ?_
      unfold closStep
      by_cases hp : (p.2 == NameKind.free) = true
      · rw [if_pos hp, List.lookup_cons]
        split
        · exact ⟨_, rfl⟩
        · exact ⟨c, z⟩
      · rw [if_neg hp]; exact ⟨c, z⟩
theorem closure_of {scope : Scope} {env : Env} (h : ∀ p ∈ scope.names, p.2 = .free → ∃ c, env.cells.lookup p.1 = some c) :
    ∃ cl, closureFor scope env = pure cl ∧ (∀ y c, cl.lookup y = some c → env.cells.lookup y = some c) ∧ ∀ y, (y, NameKind.free) ∈ scope.names → ∃ c, cl.lookup y = some c := by
  obtain ⟨h1, h2⟩ := clos_fold (cs := []) h (fun y c e => by simp at e)
  refine ⟨_, ?_, h1, fun y hy => h2 y (.inl hy)⟩
  simp only [closureFor]
  rw [forIn_fold (g := closStep env) [] (fun x hx c => ?_)]
  · rfl
  · obtain ⟨n, k⟩ := x
    unfold closStep
    by_cases hk : (k == NameKind.free) = true
    · obtain ⟨c', ec⟩ := h (n, k) hx (by simpa using hk)
      simp only [hk, if_true, cellOf, ec, pure_bind, Option.getD_some]
    · simp only [hk, Bool.false_eq_true, if_false]
def Cx.blk (X : Cx) (ts M : List Str) (scope : Scope) (cl : List (Str × Addr)) (C : Addr) (fp : List Addr) (s : Shared) (H : Hp) : Cx where
  prog := X.prog
  w := X.w
  K := X.K
  mg := X.mg
  base := X.base
  A := X.A
  N := ts ++ M
  s₀ := s
  H₀ := H
  env := compEnvC scope cl C X.env
  outer := X.stack
  stack := X.stack
  ex := fp
  fn := fun _ => false
  calm := X.calm
  pn := X.pn
  xe := fun _ _ => False
theorem relabel_lookup {env : Env} : ∀ {names : List (Str × NameKind)} {x : Str} {k : NameKind}, (names.map fun (n, k) => if (k == NameKind.free && env.scope.kind == .function && env.kindOf n == some .cell) then (n, NameKind.cell) else (n, k)).lookup x = some k →
    (names.lookup x = some k) ∨ (k = .cell ∧ names.lookup x = some .free)
  | [], _, _, h => by simp at h
  | (n, k0) :: r, x, k, h => by
    have ih := @relabel_lookup env r x k
    rw [List.map_cons] at h
    by_cases hc : (k0 == NameKind.free && env.scope.kind == .function && env.kindOf n == some .cell) = true
    · simp only [hc, if_true, List.lookup_cons] at h ⊢
      cases hx : x == n with
      | true =>
        rw [hx] at h
        have e : NameKind.cell = k := Option.some.inj h
        simp only [Bool.and_eq_true, beq_iff_eq] at hc
        exact .inr ⟨e.symm, by rw [hc.1.1]⟩
      | false =>
        rw [hx] at h
        exact ih h
    · simp only [hc, Bool.false_eq_true, if_false, List.lookup_cons] at h ⊢
      cases hx : x == n with
      | true => rw [hx] at h; exact .inl h
      | false => rw [hx] at h; exact ih h
structure BlkOk (X : Cx) (ts M : List Str) (scope : Scope) : Prop where
  kind : scope.kind = .function
  cell : ∀ y ∈ scope.names, y.2 ≠ .cell
  loc : ∀ y ∈ scope.names, y.2 = .local → scope.names.lookup y.1 = some .local
  free : ∀ p ∈ scope.names, p.2 = .free → X.env.kindOf p.1 = some .cell ∨ X.env.kindOf p.1 = some .free
  len : M.length = X.N.length
  apart : ∀ (i : Nat) (y : Str), M[i]? = some y → scope.names.lookup y = none ∨ (X.N[i]? = some y ∧ scope.names.lookup y ≠ some .local)
section
variable {X : Cx} {ts M : List Str} {scope : Scope} {cl : List (Str × Addr)} {C : Addr} {fp : List Addr} {pins : List (Addr × Obj)} {σ : St} {H : Hp} {s s1 : Shared}
theorem lookup_mem {α : Type} {l : List (Str × α)} {x : Str} {a : α} (h : l.lookup x = some a) : (x, a) ∈ l := PySem.mem_of_lookup h
theorem Inv.blk (b : BlkOk X ts M scope) (I : Inv X pins σ H s) (h1 : ∀ y c, cl.lookup y = some c → X.env.cells.lookup y = some c) (h2 : ∀ y, (y, NameKind.free) ∈ scope.names → ∃ c, cl.lookup y = some c) (hf : ∀ b ∈ fp, FpOk X pins H b)
    (hlt : ∀ b ∈ fp, b < s.heap.objs.size) (hC : s.heap.objs.size ≤ C) {h' : Heap} {t : Nat} (k : ∀ b o, s.heap.get? b = some o → h'.get? b = some o) {m : Str → Option Value} (hn : h'.Ns C m) :
    Inv (X.blk ts M scope cl C fp s H) pins (List.replicate ts.length none ++ σ) H { s with heap := h', toks := t } := by
  have sub : ∀ a ∈ frs X.stack, a = X.env.locals ∨ a ∈ X.fs := fun a ha => List.mem_cons.mp (I.stkSub a ha)
  have hfree : ∀ y, scope.names.lookup y = some .free → X.env.kindOf y = some .cell ∨ X.env.kindOf y = some .free := fun y e => b.free (y, .free) (lookup_mem e) rfl
  have hk : ∀ {y : Str} {kd : NameKind}, (compEnvC scope cl C X.env).kindOf y = some kd → scope.names.lookup y = some kd ∨ (kd = .cell ∧ scope.names.lookup y = some .free) := fun e => relabel_lookup e
  refine ⟨⟨I.ok.mod, b.kind, I.ok.glob, I.ok.blt, hC, fun x y c e1 e2 => I.ok.inj x y c (h1 x c e1) (h1 y c e2), fun x hx => ?_, (fun x c z => absurd (show false = true from z) Bool.false_ne_true), I.ok.hd, I.ok.frames, .inl rfl, fun a ha => ⟨?_, fun x c e => (hf a ha).2.2.2.2.1 x c (h1 x c e)⟩,
    fun a o e => I.bs a o e, Nat.le_trans I.ok.bsz I.sz, fun a o e ha => ?_, fun a ha z => ?_, I.stack, I.stkFree⟩, rfl, I.bare, Un.kept k, ⟨m, hn, fun i y v e1 e2 e3 => ?_⟩, fun x c e => ?_, I.hok.fresh hC, fun x c e => I.freeC x c (h1 x c e), fun p hp => ?_, I.hok.kept k, ?_⟩
  · rcases hx with hx | hx
    · rcases hk hx with z | ⟨_, z⟩
      · exact absurd rfl (b.cell (x, .cell) (lookup_mem z))
      · exact h2 x (lookup_mem z)
    · rcases hk hx with z | ⟨z, _⟩
      · exact h2 x (lookup_mem z)
      · cases z
  · exact Nat.ne_of_lt (Nat.lt_of_lt_of_le (hlt a ha) hC)
  · rcases (hf a ha).2.2.2.1 with z | z
    · exact I.ok.noex a o e z
    · exact absurd (Nat.lt_of_lt_of_le (Nat.lt_of_lt_of_le (Heap.lt_size e) I.ok.bsz) z) (Nat.lt_irrefl _)
  · rcases sub a z with z | z
    · exact (hf a ha).2.1 z
    · exact (hf a ha).2.2.1 z
  · have hi : ts.length ≤ i := by
      by_cases q : ts.length ≤ i
      · exact q
      · rw [List.getElem?_append_left (by simpa using q), List.getElem?_replicate] at e2
        split at e2 <;> cases e2
    have e1M : M[i - ts.length]? = some y := by
      have z : (ts ++ M)[i]? = some y := e1
      rwa [List.getElem?_append_right hi] at z
    have e2' : σ[i - ts.length]? = some (some v) := by
      rw [List.getElem?_append_right (by simpa using hi), List.length_replicate] at e2
      exact e2
    obtain ⟨e1', nl⟩ : X.N[i - ts.length]? = some y ∧ scope.names.lookup y ≠ some .local := by
      rcases b.apart _ y e1M with z | z
      · exfalso
        rcases e3 with e3 | e3 | e3 <;> rcases hk e3 with q | ⟨_, q⟩ <;> (rw [z] at q; cases q)
      · exact z
    have fr : scope.names.lookup y = some .free := by
      rcases e3 with e3 | e3 | e3
      · rcases hk e3 with z | ⟨z, _⟩
        · exact absurd z nl
        · cases z
      · rcases hk e3 with z | ⟨_, z⟩
        · exact absurd rfl (b.cell (y, .cell) (lookup_mem z))
        · exact z
      · rcases hk e3 with z | ⟨z, _⟩
        · exact z
        · cases z
    obtain ⟨m0, hn0, hl0⟩ := I.loc
    have vis : Vis X.env.scope y := by
      rcases hfree y fr with z | z
      · exact .inr (.inl z)
      · exact .inr (.inr z)
    obtain ⟨u, r, l⟩ := hl0 _ y v e1' e2' vis
    obtain ⟨c, ec⟩ := h2 y (lookup_mem fr)
    refine ⟨u, r, .inr ⟨?_, c, ec, ?_⟩⟩
    · rcases e3 with e3 | e3 | e3
      · rcases hk e3 with z | ⟨z, _⟩
        · exact absurd z nl
        · cases z
      · exact .inl e3
      · exact .inr e3
    · rcases l with ⟨kl, _⟩ | ⟨_, c', ec', z⟩
      · rcases hfree y fr with q | q <;> (rw [kl] at q; cases q)
      · rw [h1 y c ec] at ec'
        cases ec'
        obtain ⟨o, ho, hd⟩ := z
        exact ⟨o, k _ _ ho, hd⟩
  · obtain ⟨v, o, ho, hd⟩ := I.cell x c (h1 x c e)
    exact ⟨v, o, k _ _ ho, hd⟩
  · obtain ⟨e, n, ne, nf, d⟩ := I.pin p hp
    refine ⟨k _ _ e, n, Nat.ne_of_lt (Nat.lt_of_lt_of_le (Heap.lt_size e) hC), fun z => ?_, d⟩
    rcases sub _ z with z | z
    · exact ne z
    · exact nf z
  · show _ = (ts ++ M).length
    rw [List.length_append, List.length_append, List.length_replicate, I.len, b.len]
theorem Inv.unblk {D : Addr} {ys : List V} {us : List Value} {n : Nat} {σ' : St} {H' : Hp} (I : Inv X pins σ H s) (J : Inv (X.blk ts M scope cl C fp s H) pins σ' H' s1) (hf : ∀ b ∈ fp, FpOk X pins H b) (hD : s.heap.objs.size ≤ D) (hn : H' D = none)
    (ho : s1.heap.get? D = some { cls := .type "list", data := .seq us.toArray n }) (r : Vals ys us) (hz : ys.length ≤ sizeLine) : Inv X pins σ (upd H' D (.lst ys)) s1 := by
  have u : Un (frs X.stack) fp H H' s.heap s1.heap := J.base
  have ndt : ∀ b o, H' b = some o → b ≠ D := fun b o e z => by rw [z, hn] at e; cases e
  refine I.call' (ch := fp) J.os ⟨u.keep, u.slot, fun b o e n hx => ?_, u.there, fun b xs e => ?_, fun b o xs e => ?_, fun b ps e => ?_⟩ (fun b o e => ?_) J.bare (fun b hb => ?_)
  · rw [upd_ne (Nat.ne_of_lt (Nat.lt_of_lt_of_le (Heap.lt_size e) hD))]
    exact u.free b o e n hx
  · have z := u.tups b xs e
    rw [upd_ne (ndt b _ z)]; exact z
  · have z := u.frzs b o xs e
    rw [upd_ne (ndt b _ z)]; exact z
  · obtain ⟨more, z⟩ := u.tbls b ps e
    exact ⟨more, by rw [upd_ne (ndt b _ z)]; exact z⟩
  · by_cases hb : b = D
    · subst hb
      rw [upd_same] at e
      cases e
      exact ⟨hz, us, n, r, ho⟩
    · rw [upd_ne hb] at e
      exact (J.hok b o e).stay (fun c v _ q => q) (fun c q => by rw [upd_ne (ndt c _ q)]; exact q) fun c xs q => by rw [upd_ne (ndt c _ q)]; exact q
  · obtain ⟨f0, f1, f2, f3, f4, f5⟩ := hf b hb
    exact ⟨f3, f1, f4, f5⟩
end
def PIf (X : Cx) (ifs : List Expr) (t : TT) : Prop :=
  ∀ (pins : List (Addr × Obj)) (s : Shared) (σ : St) (H : Hp) (Q : Bool → Hp → Prop), Inv X pins σ H s → t σ H Q →
    wpAny (model X.prog X.w) X.A (forIn ifs true fun c r => if r = true then do let ok ← isTrue c X.env (eval c X.env); pure (ForInStep.yield ok) else pure (ForInStep.yield r)) (TP X pins σ Q) X.xe s
def tYes : TT := fun _ H Q => Q true H
theorem pif_nil {X : Cx} : PIf X [] tYes := fun _ _ _ H _ I h => wpAny_tests_nil ⟨H, I, h⟩
theorem pif_one {X : Cx} {c : Expr} {t : TT} (h : PT X c t) : PIf X [c] t := fun pins s σ H Q I q => wpAny_tests_one (h pins s σ H Q I q)
def NewL (Q : VK) (ys : List V) (H : Hp) : Prop := ∀ p, H p = none → Q (.ref p) (upd H p (.lst ys))
def tComp (k : Nat) (wi : TI) (g : TG) (tf : TT) (te : TE) : TE := fun σ H Q => wi σ H fun J H1 => ∃ W : Nat → Nat → List V → Hp → Prop, (∃ m, W 0 m [] H1) ∧ ∀ i m ys H2, W i m ys H2 →
  (J.stop i H2 ∧ NewL Q ys H2) ∨
  (J.go i H2 ∧ ys.length < sizeLine ∧ ∀ x H3, J.yld i H2 x H3 → g x (List.replicate k none ++ σ) H3 fun σ4 H4 => σ4.drop k = σ ∧ tf σ4 H4 fun b H5 =>
    if b = true then te σ4 H5 fun y H6 => ∃ m', m' < m ∧ W (i + 1) m' (ys ++ [y]) H6 else ∃ m', m' < m ∧ W (i + 1) m' ys H5)
section
variable {prog : Program} {w : World} {A : Around} {R : Result → Shared → Prop} {s : Shared}
theorem compLoop_any {elt target iter : Expr} {ifs : List Expr} {scope : Scope} {pos : Pos} {it acc : Value} {env : Env} (I : Nat → Shared → Prop)
    (turn : ∀ n s, I n s → wpAny (model prog w) A (pyNext it) (fun r s₁ => match r with
      | none => R (.ok .next) s₁
      | some v => wpAny (model prog w) A (letOwnedTupleGo target it v) (fun _ s₂ => wpAny (model prog w) A (assign target env v) (fun _ s₂ =>
          wpAny (model prog w) A (forIn ifs true fun c r => if r = true then do let ok ← isTrue c env (eval c env); pure (ForInStep.yield ok) else pure (ForInStep.yield r)) (fun ok s₃ =>
            if ok = true then wpAny (model prog w) A (eval elt env) (fun x s₄ =>
              wpAny (model prog w) A (call (.builtin "list.append") [acc, x]) (fun _ s₅ => ∃ m, m < n ∧ I m s₅) (notedBy (model prog w) A env fun e s' => R (.error e) s') s₄) (notedBy (model prog w) A env fun e s' => R (.error e) s') s₃
            else ∃ m, m < n ∧ I m s₃) (notedBy (model prog w) A env fun e s' => R (.error e) s') s₂) (notedBy (model prog w) A env fun e s' => R (.error e) s') s₂) (notedBy (model prog w) A env fun e s' => R (.error e) s') s₁) (notedBy (model prog w) A env fun e s' => R (.error e) s') s)
    (n : Nat) (h : I n s) :
    codeAny (model prog w) A (.compLoop (.ListComp elt [⟨target, iter, ifs, 0⟩] scope pos) 0 it acc env) R s := by
  refine codeAny_loop rfl I (fun n s hI => ?_) n h
  show wpAny _ A ((compTurn (.ListComp elt [⟨target, iter, ifs, 0⟩] scope pos) 0 it acc env).onRaise (fun x => do noteFrame x env; theTreesLotGoes x)) _ _ s
  refine wpAny_noted ?_
  rw [compTurn_list]
  refine wpAny_bind (wpAny_standAt (wpAny_bind (wpAny_mono (turn n s hI) (fun r s₁ h₁ => ?_) fun _ _ h' => h')))
  cases r with
  | none => exact wpAny_pure h₁
  | some v =>
    refine wpAny_bind (wpAny_mono h₁ (fun _ s₂ h₂ => ?_) fun _ _ h' => h')
    refine wpAny_bind (wpAny_mono h₂ (fun _ s₂ h₂ => wpAny_bind (wpAny_mono h₂ (fun ok s₃ h₃ => ?_) fun _ _ h' => h')) fun _ _ h' => h')
    cases ok with
    | false => exact wpAny_pure ⟨rfl, h₃⟩
    | true =>
      exact wpAny_bind (wpAny_bind (wpAny_mono h₃ (fun x s₄ h₄ => wpAny_bind (wpAny_mono h₄ (fun _ s₅ h₅ => wpAny_pure (wpAny_pure ⟨rfl, h₅⟩)) fun _ _ h' => h')) fun _ _ h' => h'))
end
section
variable {X : Cx} {ts : List Str} {elt tg iter : Expr} {ifs : List Expr} {scope : Scope} {pos : Pos} {wi : TI} {g : TG} {tf : TT} {te : TE}
theorem blk_run {pins : List (Addr × Obj)} {σ : St} {H : Hp} {s : Shared} {cl : List (Str × Addr)} {it : Addr} {fp : List Addr} {tn : Nat → Heap → Prop} {J : It} {RR : Value → Addr → Result → Shared → Prop} {E : Value → Shared → Prop} {Q : VK}
    (b : BlkOk X ts M scope) (hc : X.calm = true) (hg : ∀ cl C fp s H, PG (X.blk ts M scope cl C fp s H) tg g) (hif : ∀ cl C fp s H, PIf (X.blk ts M scope cl C fp s H) ifs tf) (he : ∀ cl C fp s H, PE (X.blk ts M scope cl C fp s H) elt te)
    (I : Inv X pins σ H s) (h1 : ∀ y c, cl.lookup y = some c → X.env.cells.lookup y = some c) (h2 : ∀ y, (y, NameKind.free) ∈ scope.names → ∃ c, cl.lookup y = some c) (T : Turn X.prog X.w X.K tg J fp it tn) (st : tn 0 s.heap) (hf : ∀ b ∈ fp, FpOk X pins H b)
    (hw : ∃ W : Nat → Nat → List V → Hp → Prop, (∃ m, W 0 m [] H) ∧ ∀ i m ys H2, W i m ys H2 →
      (J.stop i H2 ∧ NewL Q ys H2) ∨
      (J.go i H2 ∧ ys.length < sizeLine ∧ ∀ x H3, J.yld i H2 x H3 → g x (List.replicate ts.length none ++ σ) H3 fun σ4 H4 => σ4.drop ts.length = σ ∧ tf σ4 H4 fun b H5 =>
        if b = true then te σ4 H5 fun y H6 => ∃ m', m' < m ∧ W (i + 1) m' (ys ++ [y]) H6 else ∃ m', m' < m ∧ W (i + 1) m' ys H5))
    (fin : ∀ D C s1 H2 ys m, Inv X pins σ (upd H2 D (.lst ys)) s1 → s1.heap.Ns C m → (upd H2 D (.lst ys)) C = none → C ≠ X.env.locals → X.s₀.heap.objs.size ≤ C → (∀ x c, X.env.cells.lookup x = some c → c ≠ C) → (∀ p ∈ X.pn ++ pins, p.1 ≠ C) →
      Q (.ref D) (upd H2 D (.lst ys)) → RR (.ref D) C (.ok .next) s1) :
    wpAny (model X.prog X.w) X.A (newList []) (fun acc s₃ => wpAny (model X.prog X.w) X.A (newFunctionEnv scope X.env.globals cl [] X.env.qual none .none (some X.env)) (fun cenv s₄ =>
      codeAny (model X.prog X.w) X.A (.compStart (.ListComp elt [⟨tg, iter, ifs, 0⟩] scope pos) 0 (.ref it) acc { cenv with scope := relabel scope X.env }) (RR acc cenv.locals) s₄) E s₃) E s := by
  obtain ⟨W, ⟨m0, w0⟩, turn⟩ := hw
  refine wpAny_newObj_type (wpAny_newFunctionEnv b.cell (by intro y hy; simp at hy) (fun h₁ hns₁ hsb₁ => ?_) b.kind)
  dsimp only at hns₁ hsb₁ ⊢
  generalize hH2 : s.heap.push { cls := .type "list", dict := none, data := .seq ([] : List Value).toArray } = G2 at hns₁ hsb₁ ⊢
  have hC : G2.objs.size = s.heap.objs.size + 1 := by rw [← hH2, Heap.size_push]
  have hDC : s.heap.objs.size ≠ G2.objs.size := by rw [hC]; exact Nat.ne_of_lt (Nat.lt_succ_self _)
  have hCle : s.heap.objs.size ≤ G2.objs.size := by rw [hC]; exact Nat.le_succ _
  have below : ∀ b, b < s.heap.objs.size → b ≠ G2.objs.size ∧ b ≠ s.heap.objs.size := fun b hb => ⟨by rw [hC]; exact Nat.ne_of_lt (Nat.lt_succ_of_lt hb), Nat.ne_of_lt hb⟩
  have old : ∀ b o, s.heap.get? b = some o → h₁.get? b = some o := fun b o e => hsb₁.extBut b o (below b (Heap.lt_size e)).1 (Heap.get?_push_of_some _ (hH2 ▸ Heap.get?_push_of_some _ e))
  have hacc : h₁.get? s.heap.objs.size = some { cls := .type "list", data := .seq ([] : List Value).toArray 0 } := hsb₁.extBut _ _ hDC (Heap.get?_push_of_some _ (hH2 ▸ Heap.get?_push_size _ rfl))
  have hlt : ∀ b ∈ fp, b < s.heap.objs.size := fun b hb => by
    obtain ⟨o, e, _⟩ := T.obj 0 _ st b hb
    exact Heap.lt_size e
  have hDf : s.heap.objs.size ∉ fp := fun hm => Nat.lt_irrefl _ (hlt _ hm)
  have cellLt : ∀ x c, X.env.cells.lookup x = some c → c < s.heap.objs.size := fun x c e => by
    obtain ⟨v, z⟩ := I.cell x c e
    exact z.lt
  have pinLt : ∀ p ∈ X.pn ++ pins, p.1 < s.heap.objs.size := fun p hp => Heap.lt_size (I.pin p hp).1
  have J0 : Inv (X.blk ts M scope cl G2.objs.size fp s H) pins (List.replicate ts.length none ++ σ) H { s with heap := h₁, toks := s.toks + ([] : List (Str × Value)).length } := I.blk b h1 h2 hf hlt hCle old hns₁
  have stat : ∀ {H' : Hp} {ps : List (Addr × Obj)}, (∀ b ∈ fp, H' b = none) → (∀ p ∈ ps, p ∈ pins ∨ p.1 = s.heap.objs.size) → ∀ b ∈ fp, FpOk (X.blk ts M scope cl G2.objs.size fp s H) ps H' b := fun {H' ps} hn hp b hb => by
    refine ⟨hn b hb, (below b (hlt b hb)).1, J0.ok.exfs b hb, .inl hb, fun x c e => (hf b hb).2.2.2.2.1 x c (h1 x c e), fun p hm => ?_⟩
    rcases List.mem_append.mp hm with z | z
    · exact (hf b hb).2.2.2.2.2 p (List.mem_append_left _ z)
    · rcases hp p z with z | z
      · exact (hf b hb).2.2.2.2.2 p (List.mem_append_right _ z)
      · rw [z]; exact Ne.symm (below b (hlt b hb)).2
  have dpin : ∀ {us : List Value} {n : Nat} {σ' : St} {H' : Hp} {s' : Shared}, Inv (X.blk ts M scope cl G2.objs.size fp s H) pins σ' H' s' → s'.heap.get? s.heap.objs.size = some { cls := .type "list", data := .seq us.toArray n } → H' s.heap.objs.size = none →
      Inv (X.blk ts M scope cl G2.objs.size fp s H) (pins ++ [(s.heap.objs.size, { cls := .type "list", data := .seq us.toArray n })]) σ' H' s' := fun {us n σ' H' s'} Jn e hn => Jn.pins_of fun p hp => by
    rcases List.mem_append.mp hp with z | z
    · exact Jn.pin p (List.mem_append_right _ z)
    · have z' := List.mem_singleton.mp z
      subst z'
      refine ⟨e, hn, hDC, fun z => ?_, fun v z => nomatch z⟩
      obtain ⟨_, o, ho, _⟩ := I.stack.mem z
      exact absurd (Heap.lt_size ho) (Nat.lt_irrefl _)
  have loop : ∀ s₃ : Shared, s₃ = { s with heap := h₁, toks := s.toks + ([] : List (Str × Value)).length } →
      codeAny (model X.prog X.w) X.A (.compLoop (.ListComp elt [⟨tg, iter, ifs, 0⟩] scope pos) 0 (.ref it) (.ref s.heap.objs.size) (compEnvC scope cl G2.objs.size X.env)) (RR (.ref s.heap.objs.size) G2.objs.size) s₃ := by
    rintro s₃ rfl
    refine compLoop_any (fun n s' => ∃ i ys us c H', Inv (X.blk ts M scope cl G2.objs.size fp s H) pins (List.replicate ts.length none ++ σ) H' s' ∧ tn i s'.heap ∧ (∀ b ∈ fp, H' b = none) ∧
      s'.heap.get? s.heap.objs.size = some { cls := .type "list", data := .seq us.toArray c } ∧ H' s.heap.objs.size = none ∧ Vals ys us ∧ ys.length ≤ sizeLine ∧ W i n ys H') ?_ m0
      ⟨0, [], [], 0, H, J0, T.keep _ _ _ st fun b _ o e => old b o e, fun b hb => (hf b hb).1, hacc, I.hok.fresh (Nat.le_refl _), .nil, Nat.zero_le _, w0⟩
    rintro n s' ⟨i, ys, us, c, H', J', st', fr', ho', hn', r', hz', w'⟩
    have Jp := dpin J' ho' hn'
    have pinOk : ∀ p ∈ pins ++ [(s.heap.objs.size, ({ cls := .type "list", data := .seq us.toArray c } : Obj))], p ∈ pins ∨ p.1 = s.heap.objs.size := fun p hp => (List.mem_append.mp hp).imp id fun z => by rw [List.mem_singleton.mp z]
    rcases turn i n ys H' w' with ⟨stop, q⟩ | ⟨go, hsz, step⟩
    · refine wpAny_mono (T.done (X.blk ts M scope cl G2.objs.size fp s H) rfl rfl rfl hc i _ s' _ H' _ Jp (stat fr' pinOk) st' stop) (fun r s4 ⟨hr, J4⟩ => ?_) fun _ _ z => z
      subst hr
      have J4' : Inv (X.blk ts M scope cl G2.objs.size fp s H) pins (List.replicate ts.length none ++ σ) H' s4 := J4.unpinned
      have e4 := (J4.pin (s.heap.objs.size, _) (List.mem_append_right _ (List.mem_append_right _ (List.mem_singleton.mpr rfl)))).1
      obtain ⟨m, hm, _⟩ := J4'.loc
      refine fin _ _ s4 H' ys m (I.unblk J4' hf (Nat.le_refl _) hn' e4 r' hz') hm ?_ (Ne.symm (Nat.ne_of_lt (Nat.lt_of_lt_of_le I.lt hCle))) (Nat.le_trans I.sz hCle) (fun x c e => Nat.ne_of_lt (Nat.lt_of_lt_of_le (cellLt x c e) hCle)) (fun p hp => Nat.ne_of_lt (Nat.lt_of_lt_of_le (pinLt p hp) hCle)) (q _ hn')
      rw [upd_ne (Ne.symm hDC)]
      exact J4'.free
    · refine wpAny_mono (T.item (X.blk ts M scope cl G2.objs.size fp s H) rfl rfl rfl hc i _ s' _ H' _ Jp (stat fr' pinOk) st' go) (fun r s4 ⟨u, hr, h4⟩ => ?_) fun _ _ z => z
      subst hr
      refine wpAny_mono h4 (fun _ s5 ⟨x, H5, I5, r5, y5, st5, fr5⟩ => ?_) fun _ _ z => z
      have I5' := I5.pinned (stat fr5 pinOk) (T.obj _ _ st5)
      refine wpAny_mono (hg cl G2.objs.size fp s H _ s5 _ H5 x u _ I5' r5 (step x H5 y5)) (fun _ s6 ⟨σ6, H6, I6, q6d, q6⟩ => ?_) fun _ _ z => False.elim z
      refine wpAny_mono (hif cl G2.objs.size fp s H _ s6 σ6 H6 _ I6 q6) (fun ok s7 ⟨H7, I7, q7⟩ => ?_) fun _ _ z => False.elim z
      have weak : ∀ {ps : List (Addr × Obj)} {H8 : Hp} {s8 : Shared}, Inv (X.blk ts M scope cl G2.objs.size fp s H) ps σ6 H8 s8 → Inv (X.blk ts M scope cl G2.objs.size fp s H) ps (List.replicate ts.length none ++ σ) H8 s8 := fun {ps H8 s8} K8 => by
        have len6 : σ6.length = (ts ++ M).length := K8.len
        rw [List.length_append, b.len] at len6
        refine K8.weak (by rw [List.length_append, List.length_replicate, len6, I.len]) fun j v e => ?_
        have hj : ts.length ≤ j := by
          by_cases q : ts.length ≤ j
          · exact q
          · rw [List.getElem?_append_left (by simpa using q), List.getElem?_replicate] at e
            split at e <;> cases e
        rw [List.getElem?_append_right (by simpa using hj), List.length_replicate, ← q6d, List.getElem?_drop] at e
        rwa [show ts.length + (j - ts.length) = j by omega] at e
      have back : ∀ {H8 : Hp} {s8 : Shared}, Inv (X.blk ts M scope cl G2.objs.size fp s H) (pins ++ [(s.heap.objs.size, ({ cls := .type "list", data := .seq us.toArray c } : Obj))] ++ pinsAt fp s5.heap) σ6 H8 s8 →
          Inv (X.blk ts M scope cl G2.objs.size fp s H) pins (List.replicate ts.length none ++ σ) H8 s8 ∧ tn (i + 1) s8.heap ∧ (∀ b ∈ fp, H8 b = none) ∧ s8.heap.get? s.heap.objs.size = some { cls := .type "list", data := .seq us.toArray c } ∧ H8 s.heap.objs.size = none := fun {H8 s8} K8 => by
        have pD := K8.pin (s.heap.objs.size, _) (List.mem_append_right _ (List.mem_append_left _ (List.mem_append_right _ (List.mem_singleton.mpr rfl))))
        refine ⟨(weak K8).unpinned.unpinned, T.keep _ _ _ st5 fun b hb o e => (K8.pin (b, o) (List.mem_append_right _ (List.mem_append_right _ (mem_pinsAt hb e)))).1, fun b hb => ?_, pD.1, pD.2.1⟩
        obtain ⟨o, e, _⟩ := T.obj _ _ st5 b hb
        exact (K8.pin (b, o) (List.mem_append_right _ (List.mem_append_right _ (mem_pinsAt hb e)))).2.1
      cases ok with
      | false =>
        obtain ⟨m', hm', w7⟩ := q7
        obtain ⟨a1, a2, a3, a4, a5⟩ := back I7
        exact ⟨m', hm', i + 1, ys, us, c, H7, a1, a2, a3, a4, a5, r', hz', w7⟩
      | true =>
        refine wpAny_mono (he cl G2.objs.size fp s H _ s7 σ6 H7 _ I7 q7) (fun yv s8 ⟨y, H8, I8, r8, m', hm', w8⟩ => ?_) fun _ _ z => False.elim z
        obtain ⟨a1, a2, a3, a4, a5⟩ := back I8
        refine append_at (hsz := by rw [List.size_toArray, ← r'.length]; exact hz') a4 fun h9 hs9 hD9 => ?_
        have e9 : us.toArray.push yv = (us ++ [yv]).toArray := by simp
        rw [e9] at hD9
        refine ⟨m', hm', i + 1, ys ++ [y], us ++ [yv], c + 1, H8, ?_, T.keep _ _ _ a2 fun b hb o e => hs9.extBut b o (fun z => hDf (z ▸ hb)) e, a3, hD9, a5, r'.append (.cons r8 .nil), ?_, w8⟩
        · refine a1.turned (t' := s8.toks) (it := s.heap.objs.size) (fun b o hb e => hs9.extBut b o hb e) a5 hDC (.inr (Nat.le_refl _)) (fun x c e => Nat.ne_of_lt (cellLt x c (h1 x c e))) fun p hp => Nat.ne_of_lt (pinLt p hp)
        · rw [List.length_append, List.length_singleton]; omega
  exact codeAny_compStart_list (loop _ rfl) (T.self _ 0 _ _ _ (T.keep _ _ _ st fun b _ o e => old b o e) (loop _ rfl))
theorem pe_lcG (b : BlkOk X ts M scope) (hc : X.calm = true) (hi : PI X tg iter wi) (hg : ∀ cl C fp s H, PG (X.blk ts M scope cl C fp s H) tg g) (hif : ∀ cl C fp s H, PIf (X.blk ts M scope cl C fp s H) ifs tf) (he : ∀ cl C fp s H, PE (X.blk ts M scope cl C fp s H) elt te)
    (hs : ∀ x, foldedSetIterable iter X.env x = pure x := by intro _; rfl) : PE X (.ListComp elt [⟨tg, iter, ifs, 0⟩] scope pos) (tComp ts.length wi g tf te) := by
  intro pins s σ H Q I h
  obtain ⟨cl, hcl, h1, h2⟩ := closure_of (scope := scope) (env := X.env) fun p hp hk => I.ok.has p.1 (b.free p hp hk)
  rw [eval_ListComp]
  refine wpAny_comprehension_free (use := none) rfl hs hcl b.kind b.loc (thn (hi pins s σ H _ I h) fun v s1 h' => thn h' fun itv s2 h2' => ?_)
  obtain ⟨it, fp, tn, J, H2, e, I2, T, st2, f2, hw⟩ := h2'
  subst e
  refine blk_run (RR := fun acc C => compPost (model X.prog X.w) X.A X.xe none (EP X pins σ Q) acc C) b hc hg hif he I2 h1 h2 T st2 f2 hw ?_
  intro D C s3 H3 ys m I3 hn hC hL hsz hcell hpin q
  exact ⟨m, hn, fun h' hs' => ⟨.ref D, _, I3.turned (t' := s3.toks) (it := C) (fun b o hb e => hs'.extBut b o hb e) hC hL (.inr hsz) hcell hpin, rfl, q⟩⟩
theorem ps_lcG {i : Nat} {y : Str} {py spos : Pos} (hN : X.N.Nodup) (hy : X.N[i]? = some y) (hk : X.env.kindOf y = some .local) (b : BlkOk X ts M scope) (hc : X.calm = true) (hi : PI X tg iter wi)
    (hg : ∀ cl C fp s H, PG (X.blk ts M scope cl C fp s H) tg g) (hif : ∀ cl C fp s H, PIf (X.blk ts M scope cl C fp s H) ifs tf) (he : ∀ cl C fp s H, PE (X.blk ts M scope cl C fp s H) elt te)
    (hsw : swapsWith (.ListComp elt [⟨tg, iter, ifs, 0⟩] scope pos) (some (.Name y py)) spos.line X.env = pure true) (hs : ∀ x, foldedSetIterable iter X.env x = pure x := by intro _; rfl) :
    PS X (.Assign [.Name y py] (.ListComp elt [⟨tg, iter, ifs, 0⟩] scope pos) spos) (tAsg (tComp ts.length wi g tf te) (gName i)) := by
  intro pins s σ H D I h
  obtain ⟨cl, hcl, h1, h2⟩ := closure_of (scope := scope) (env := X.env) fun p hp hk => I.ok.has p.1 (b.free p hp hk)
  rw [exec_Assign_Name_used _ _ _ _ hsw]
  refine wpAny_bind (wpAny_standAt (wpAny_bind ?_))
  show wpAny _ X.A (do let _ ← comprehension (.ListComp elt [⟨tg, iter, ifs, 0⟩] scope pos) scope X.env _ (newList []) false (eval iter X.env) (some (assign (.Name y py) X.env))) _ _ s
  refine wpAny_bind (wpAny_mono (wpAny_comprehension_free (use := some (assign (.Name y py) X.env)) (Q := fun _ s' => SP X pins D .next s') rfl hs hcl b.kind b.loc
    (thn (hi pins s σ H _ I h) fun v s1 h' => thn h' fun itv s2 h2' => ?_)) (fun _ s' hq => wpAny_pure (wpAny_pure hq)) fun _ _ e => e)
  obtain ⟨it, fp, tn, J, H2, e, I2, T, st2, f2, hw⟩ := h2'
  subst e
  refine blk_run (RR := fun acc C => compPost (model X.prog X.w) X.A X.xe (some (assign (.Name y py) X.env)) (fun _ s' => SP X pins D .next s') acc C) (Q := fun v H1 => gName i v σ H1 D.nx) b hc hg hif he I2 h1 h2 T st2 f2 hw ?_
  intro D' C s3 H3 ys m I3 hn hC hL hsz hcell hpin q
  show wpAny _ X.A (assign (.Name y py) X.env (.ref D')) _ _ _
  refine wpAny_assign_Name (store_ok2 (v := .ref D') I3 hN hy (.inl hk) rfl (fun s4 I4 ⟨a, hs4, ha⟩ => ?_) (.inr hk))
  have hCa : C ≠ a := by
    rcases ha with rfl | ha
    · exact hL
    · exact Ne.symm (hcell y a ha)
  exact ⟨m, hn.sameBut hs4 hCa, fun h' hs' => ⟨_, _, I4.turned (t' := s4.toks) (it := C) (fun b o hb e => hs'.extBut b o hb e) hC hL (.inr hsz) hcell hpin, q⟩⟩
end
theorem blk_mk {X : Cx} {ts : List Str} {scope sc : Scope} {N : List Str} (eN : X.N = N) (es : X.env.scope = sc) (h1 : scope.kind = .function) (h2 : (scope.names.all fun y => decide (y.2 ≠ .cell)) = true) (h3 : (scope.names.all fun y => decide (y.2 = .local → scope.names.lookup y.1 = some .local)) = true)
    (h4 : (scope.names.all fun p => decide (p.2 = .free → sc.names.lookup p.1 = some .cell ∨ sc.names.lookup p.1 = some .free)) = true) (h5 : (N.all fun y => decide (scope.names.lookup y ≠ some .local)) = true) : BlkOk X ts N scope := by
  subst eN es
  exact ⟨h1, fun y hy => of_decide_eq_true (List.all_eq_true.mp h2 y hy), fun y hy => of_decide_eq_true (List.all_eq_true.mp h3 y hy), fun y hy => of_decide_eq_true (List.all_eq_true.mp h4 y hy), rfl, fun i y hy => .inr ⟨hy, of_decide_eq_true (List.all_eq_true.mp h5 y (List.mem_of_getElem? hy))⟩⟩
structure Lc (N : List Str) (sc scope : Scope) (x : Str) : Prop where
  nd : ([x] ++ N).Nodup
  kind : scope.kind = .function
  own : scope.names.lookup x = some .local
  cell : (scope.names.all fun y => decide (y.2 ≠ .cell)) = true
  loc : (scope.names.all fun y => decide (y.2 = .local → scope.names.lookup y.1 = some .local)) = true
  free : (scope.names.all fun p => decide (p.2 = .free → sc.names.lookup p.1 = some .cell ∨ sc.names.lookup p.1 = some .free)) = true
  apart : (N.all fun y => decide (scope.names.lookup y ≠ some .local)) = true
section
variable {X : Cx} {N : List Str} {sc scope : Scope} {x : Str} {px pos : Pos} {elt iter : Expr} {ifs : List Expr} {wi : TI} {tf : TT} {te : TE}
theorem Lc.ok (L : Lc N sc scope x) (eN : X.N = N) (es : X.env.scope = sc) : BlkOk X [x] N scope := blk_mk eN es L.kind L.cell L.loc L.free L.apart
theorem Lc.tg (L : Lc N sc scope x) (eN : X.N = N) (cl : List (Str × Addr)) (C : Addr) (fp : List Addr) (s : Shared) (H : Hp) : PG (X.blk [x] N scope cl C fp s H) (.Name x px) (gName 0) :=
  pg_name (X := X.blk [x] N scope cl C fp s H) (i := 0) (by show ([x] ++ N).Nodup; exact L.nd) rfl (.inl (lookup_relabel_local L.own)) (.inr (lookup_relabel_local L.own))
theorem pe_lc (L : Lc N sc scope x) (eN : X.N = N) (es : X.env.scope = sc) (hc : X.calm = true) (hi : PI X (.Name x px) iter wi) (hif : ∀ cl C fp s H, PIf (X.blk [x] N scope cl C fp s H) ifs tf) (he : ∀ cl C fp s H, PE (X.blk [x] N scope cl C fp s H) elt te)
    (hs : ∀ x, foldedSetIterable iter X.env x = pure x := by intro _; rfl) : PE X (.ListComp elt [⟨.Name x px, iter, ifs, 0⟩] scope pos) (tComp 1 wi (gName 0) tf te) :=
  pe_lcG (ts := [x]) (M := N) (L.ok eN es) hc hi (fun cl C fp s H => L.tg eN cl C fp s H) hif he hs
theorem ps_lc {i : Nat} {y : Str} {py spos : Pos} (hN : X.N.Nodup) (hy : X.N[i]? = some y) (hk : X.env.kindOf y = some .local) (L : Lc N sc scope x) (eN : X.N = N) (es : X.env.scope = sc) (hc : X.calm = true) (hi : PI X (.Name x px) iter wi)
    (hif : ∀ cl C fp s H, PIf (X.blk [x] N scope cl C fp s H) ifs tf) (he : ∀ cl C fp s H, PE (X.blk [x] N scope cl C fp s H) elt te)
    (hsw : swapsWith (.ListComp elt [⟨.Name x px, iter, ifs, 0⟩] scope pos) (some (.Name y py)) spos.line X.env = pure true := by with_unfolding_all rfl) (hs : ∀ x, foldedSetIterable iter X.env x = pure x := by intro _; rfl) :
    PS X (.Assign [.Name y py] (.ListComp elt [⟨.Name x px, iter, ifs, 0⟩] scope pos) spos) (tAsg (tComp 1 wi (gName 0) tf te) (gName i)) :=
  ps_lcG (ts := [x]) (M := N) hN hy hk (L.ok eN es) hc hi (fun cl C fp s H => L.tg eN cl C fp s H) hif he hsw hs
end
end L2
namespace L2
open PySem PySem.Spec PyProof.Rows
theorem passb0 {X : Cx} {P : Program} {w : World} : Passes (CXb P w) X E0 := fun _ _ _ _ _ _ _ h => by
  obtain ⟨_, _, _, _, _, q⟩ := h
  exact q.elim
theorem at_upd {H : Hp} {l p : Addr} {o u : HO} (h : H l = some o) (hp : H p = none) : upd H p u l = some o := by
  rw [upd_ne (ne_of_none h hp)]; exact h
theorem same_upd {H : Hp} {p : Addr} {u : HO} (hp : H p = none) : Same H (upd H p u) := fun _ _ h => at_upd h hp
theorem same_upd' {H H1 : Hp} {p : Addr} {u : HO} (h : Same H H1) (hp : H1 p = none) : Same H (upd H1 p u) := h.trans (same_upd hp)
theorem szOk {n : Nat} (h : n ≤ 16777216) : n ≤ sizeLine := by rw [sizeLine_eq]; exact h
theorem szLt {n : Nat} (h : n < 16777216) : n < sizeLine := by rw [sizeLine_eq]; exact h
theorem cut_ints (ns : List Int) (lo hi : Option Int) : cutV (ns.map V.int) lo hi = ((ns.drop (HT.sIx ns.length 0 lo)).take (HT.sIx ns.length ns.length hi - HT.sIx ns.length 0 lo)).map V.int := by
  unfold cutV
  rw [List.length_map, ← List.map_drop, ← List.map_take]
theorem get_map_int {ns : List Int} {i : Nat} {x : V} (h : (ns.map V.int)[i]? = some x) : ∃ n, x = .int n ∧ ns[i]? = some n := by
  rw [List.getElem?_map] at h
  cases e : ns[i]? with
  | none => rw [e] at h; cases h
  | some n => rw [e] at h; exact ⟨n, (Option.some.inj h).symm, rfl⟩
end L2
namespace L2
open PySem PySem.Spec PyProof.Rows
def tCut (t u : TS) : TS := fun D σ H => ∃ N : St → Hp → Prop, t { D with nx := N } σ H ∧ ∀ σ' H', N σ' H' → u D σ' H'
theorem pss_cut {X : Cx} {st : Stmt} {rest : List Stmt} {t u : TS} (h1 : PS X st t) (h2 : PSs X rest u) : PSs X (st :: rest) (tCut t u) := by
  intro pins s σ H D I h
  obtain ⟨N, hN, hu⟩ := h
  refine wpAny_execs_cons (thn (h1 pins s σ H { D with nx := N } I hN) fun f s1 q => ?_)
  cases f with
  | next =>
    obtain ⟨σ', H', I', q⟩ := q
    exact h2 pins s1 σ' H' D I' (hu σ' H' q)
  | ret v => exact q
  | brk => exact q
  | cont => exact q
end L2
namespace L2
open PySem PySem.Spec PyProof.Rows
theorem range_getD {α : Type} (l : List α) (d : α) : (List.range l.length).map (fun i => l.getD i d) = l := by
  refine List.ext_getElem (by simp) fun i h1 h2 => ?_
  simp [List.getD_eq_getElem?_getD, h2]
theorem any_range (bs : List Bool) : (List.range bs.length).any (fun i => bs.getD i false) = bs.any id := by
  have e := range_getD bs false
  conv => rhs; rw [← e]
  rw [List.any_map]
  rfl
section
variable {X : Cx}
theorem list_lt {h : Heap} {p : Addr} {its : Array Value} (l : h.IsList p its) : p < h.objs.size := by
  obtain ⟨o, e, _⟩ := l
  exact Heap.lt_size e
theorem item_bl {bs : List Bool} {its : List Value} (r : Vals (bs.map V.bl) its) {d : Bool} {i : Nat} {v : Value} (h : its.toArray[i]? = some v) : v = .bool (bs.getD i d) := by
  have h' : its[i]? = some v := by simpa using h
  have hl := r.length
  rw [List.length_map] at hl
  have hi : i < its.length := (List.getElem?_eq_some_iff.mp h').1
  obtain ⟨u, e1, r1⟩ := r.get (i := i) (x := .bl (bs.getD i d)) (by
    rw [List.getElem?_map, List.getElem?_eq_getElem (by omega), List.getD_eq_getElem?_getD, List.getElem?_eq_getElem (by omega)]; rfl)
  rw [h'] at e1
  cases e1
  exact r1
theorem item_int {ns : List Int} {its : List Value} (r : Vals (ns.map V.int) its) {i : Nat} {v : Value} (h : its.toArray[i]? = some v) : ∃ t, v = .int (ns.getD i 0) t := by
  have h' : its[i]? = some v := by simpa using h
  have hl := r.length
  rw [List.length_map] at hl
  have hi : i < its.length := (List.getElem?_eq_some_iff.mp h').1
  obtain ⟨u, e1, r1⟩ := r.get (i := i) (x := .int (ns.getD i 0)) (by
    rw [List.getElem?_map, List.getElem?_eq_getElem (by omega), List.getD_eq_getElem?_getD, List.getElem?_eq_getElem (by omega)]; rfl)
  rw [h'] at e1
  cases e1
  exact r1
theorem call_any (hc : X.calm = true) : CallR X (.builtin "any") (fun xs H Q => ∃ (p : Addr) (bs : List Bool), xs = [.ref p] ∧ SqL X.K H p (bs.map V.bl) ∧ Q (.bl (bs.any id)) H) := by
  intro pins s σ H xs us Q I r h
  obtain ⟨p, bs, rfl, hq, q⟩ := h
  obtain ⟨u, rfl, rx⟩ := vals1 r
  cases rx
  obtain ⟨its, r', pl, hz⟩ := I.list hq
  have hlt := list_lt pl.isList
  have hlen : its.toArray.size = bs.length := by rw [List.size_toArray, ← r'.length, List.length_map]
  refine call_any_walk (wpAny_pyIter_list pl.isList ?_)
  refine ⟨s.heap.objs.size, _, _, _, _, _, fun i => bs.getD i false, rfl, Walks.list (A := X.A.in1) (I.ok.hd hc) s.heap.objs.size p (Nat.ne_of_lt hlt) its.toArray, ⟨⟨_, Heap.get?_push_size _ rfl, rfl, rfl⟩, pl.isList.push _⟩, fun i v s' Q' E' hP hQ => ?_, fun h' tk hk => ?_⟩
  · rw [item_bl (d := false) r' hP]
    exact wpAny_truthy_bool hQ
  · refine ⟨.bl (bs.any id), H, I.kept (t' := tk) fun b o e => hk b o (fun z => Nat.ne_of_lt (Heap.lt_size e) (List.mem_singleton.mp z)) (Heap.get?_push_of_some _ e), ?_, q⟩
    show Value.bool _ = Value.bool _
    rw [hlen, any_range]
def Itv (n : Nat) (val : Nat → V) : It := ⟨fun i _ => i < n, fun i H x H' => H' = H ∧ x = val i, fun i _ => n ≤ i⟩
end
theorem comp_val {n : Nat} {val : Nat → V} {k : Nat} {g : TG} {te : TE} {σ : St} {H : Hp} {Q : VK} (f : V → V) (hl : n ≤ sizeLine)
    (hs : ∀ i H', i < n → Same H H' → ∀ R : V → Hp → Prop, (∀ H2, Same H' H2 → R (f (val i)) H2) → g (val i) (List.replicate k none ++ σ) H' fun σ4 H4 => σ4.drop k = σ ∧ te σ4 H4 R)
    (hd : ∀ H', Same H H' → NewL Q ((List.range n).map fun i => f (val i)) H') :
    ∃ W : Nat → Nat → List V → Hp → Prop, (∃ m, W 0 m [] H) ∧ ∀ i m ys H2, W i m ys H2 →
      ((Itv n val).stop i H2 ∧ NewL Q ys H2) ∨
      ((Itv n val).go i H2 ∧ ys.length < sizeLine ∧ ∀ x H3, (Itv n val).yld i H2 x H3 → g x (List.replicate k none ++ σ) H3 fun σ4 H4 => σ4.drop k = σ ∧ tYes σ4 H4 fun b H5 =>
        if b = true then te σ4 H5 fun y H6 => ∃ m', m' < m ∧ W (i + 1) m' (ys ++ [y]) H6 else ∃ m', m' < m ∧ W (i + 1) m' ys H5) := by
  refine ⟨fun i m ys H2 => m = n - i ∧ i ≤ n ∧ ys = (List.range i).map (fun i => f (val i)) ∧ Same H H2, ⟨n, by simp, Nat.zero_le _, rfl, Same.refl H⟩, ?_⟩
  rintro i m ys H2 ⟨rfl, hi, rfl, sm⟩
  by_cases hlt : i < n
  · refine .inr ⟨hlt, ?_, fun x H3 y => ?_⟩
    · rw [List.length_map, List.length_range]; omega
    · obtain ⟨e, y⟩ := y
      subst e y
      refine hs i _ hlt sm _ fun H4 s4 => ?_
      refine ⟨n - (i + 1), by omega, rfl, hlt, ?_, sm.trans s4⟩
      rw [List.range_succ, List.map_append]
      rfl
  · have e : i = n := by omega
    subst e
    exact .inl ⟨Nat.le_refl _, hd H2 sm⟩
end L2
namespace L2
open PySem PySem.Spec PyProof.Rows
section
variable {prog : Program} {w : World} {A : Around} {R : Result → Shared → Prop} {I p : Addr} {its : List Value} {ns : List Int} {d : Value}
end
end L2
namespace L2
open PySem PySem.Spec PyProof.Rows
section
variable {prog : Program} {w : World} {A : Around} {R : Result → Shared → Prop} {I p : Addr} {its : List Value} {ns : List Int} {d : Value}
end
section
variable {X : Cx} {x : Str} {p pos : Pos} {e : Expr} {es : List Expr} {t tk : TA} {id : String} {kws : List Keyword} {ks : List Str} {r : List V → List V → Hp → VK → Prop}
end
end L2
namespace L2
open PySem PySem.Spec PyProof.Rows
section
variable {X : Cx}
theorem sl_str : SlR X (fun x lo hi H Q => ∃ z, x = .str z ∧ z.length ≤ sizeLine ∧ Q (.str (Txt.slice z lo hi)) H) := by
  intro pins s σ H x v vl vu lo hi sl Q I rx hs pl pu h
  obtain ⟨z, rfl, hz, q⟩ := h
  obtain ⟨t, rfl⟩ := rx
  refine ⟨"str", _, F.slot_str_getitem.lookup, typeIs_str _ _ _, ?_⟩
  have fin : ∀ (t' : Tok) (k : Nat), EP X pins σ Q (.str (Txt.slice z lo hi) t') { s with toks := k } := fun t' k => ⟨.str _, H, I.tok k, ⟨t', rfl⟩, q⟩
  obtain ⟨o, ho, hc, hd⟩ := hs
  cases pl with
  | none =>
    cases pu with
    | none => exact wpAny_getItem_str_slice (l := none) (u := none) (st := none) ⟨o, ho, hc, hd⟩ rfl (post_val_or_str ⟨Nat.le_trans (Txt.slice_le z _ _) hz, fin⟩)
    | int j uj => exact wpAny_getItem_str_slice (l := none) (u := some (j, uj)) (st := none) ⟨o, ho, hc, hd⟩ rfl (post_val_or_str ⟨Nat.le_trans (Txt.slice_le z _ _) hz, fin⟩)
  | int i ui =>
    cases pu with
    | none => exact wpAny_getItem_str_slice (l := some (i, ui)) (u := none) (st := none) ⟨o, ho, hc, hd⟩ rfl (post_val_or_str ⟨Nat.le_trans (Txt.slice_le z _ _) hz, fin⟩)
    | int j uj => exact wpAny_getItem_str_slice (l := some (i, ui)) (u := some (j, uj)) (st := none) ⟨o, ho, hc, hd⟩ rfl (post_val_or_str ⟨Nat.le_trans (Txt.slice_le z _ _) hz, fin⟩)
end
end L2
namespace L2
open PySem PySem.Spec PyProof.Rows
section
variable {X : Cx}
theorem strs_of : ∀ {ys : List Str} {its : List Value}, Vals (ys.map V.str) its → StrsAre its ys
  | [], _, .nil => .nil
  | y :: ys, _, .cons r t => by
    obtain ⟨tk, rfl⟩ := (show ∃ t, _ = Value.str y t from r)
    exact .cons y tk (strs_of t)
theorem mt_join : MtR X "str.join" (fun x xs H Q => ∃ (z : Str) (p : Addr) (ys : List Str), x = .str z ∧ xs = [.ref p] ∧ SqL X.K H p (ys.map V.str) ∧ (ys.map (·.length)).sum + ys.length * z.length ≤ 16777216 ∧ Q (.str (Txt.join z ys)) H) := by
  intro pins s σ H x xs v us Q I rx rs h
  obtain ⟨z, p, ys, rfl, rfl, hq, hz, q⟩ := h
  obtain ⟨t, rfl⟩ := rx
  obtain ⟨u, rfl, ru⟩ := vals1 rs
  cases ru
  obtain ⟨its, r', pl, _⟩ := I.list hq
  exact join_list pl.isList (by simpa using strs_of r') hz fun t' k => ⟨.str _, H, I.tok k, ⟨t', rfl⟩, q⟩
end
end L2
namespace L2
open PySem PySem.Spec PyProof.Rows
end L2
namespace L2
open PySem PySem.Spec PyProof.Rows
section
variable {X : Cx} {tg : Expr}
end
end L2
namespace L2
open PySem PySem.Spec PyProof.Rows
end L2
namespace L2
open PySem PySem.Spec PyProof.Rows
section
variable {X : Cx}
theorem ix_tupK {K : PySem.W.Frag} (h : X.K = K) : IxR X (rIxT K) := h ▸ ix_tup
inductive EqH (K : PySem.W.Frag) (H : Hp) : Nat → V → V → Bool → Prop
  | flat {n x y} : flatV x = true → flatV y = true → EqH K H n x y (eqV x y)
  | same {n a} : EqH K H n (.ref a) (.ref a) true
  | lst {n a b xs ys} (e : Nat → Bool) : a ≠ b → SqL K H a xs → SqL K H b ys → xs.length = ys.length → (∀ j, j < xs.length → EqH K H n (xs.getD j .non) (ys.getD j .non) (e j)) → EqH K H (n + 1) (.ref a) (.ref b) ((List.range xs.length).all e)
  | lstN {n a b xs ys} : a ≠ b → SqL K H a xs → SqL K H b ys → xs.length ≠ ys.length → EqH K H (n + 1) (.ref a) (.ref b) false
  | tup {n a b xs ys} (e : Nat → Bool) : a ≠ b → SqT K H a xs → SqT K H b ys → xs.length = ys.length → (∀ j, j < xs.length → EqH K H n (xs.getD j .non) (ys.getD j .non) (e j)) → EqH K H (n + 1) (.ref a) (.ref b) ((List.range xs.length).all e)
theorem in1_units {A : Around} : A.in1.units = A.units + 1 := rfl
theorem vals_at {xs : List V} {us : List Value} (r : Vals xs us) {j : Nat} (h1 : j < us.toArray.size) : RelV (xs.getD j .non) us.toArray[j] := by
  have l1 : j < xs.length := by rw [r.length]; simpa using h1
  obtain ⟨u, e1, q1⟩ := r.get (i := j) (x := xs[j]) (List.getElem?_eq_getElem l1)
  have a1 : us.toArray[j] = u := by
    have := (List.getElem?_eq_some_iff.mp e1).2
    simpa using this
  have g1 : xs.getD j .non = xs[j] := by simp [List.getD_eq_getElem?_getD, l1]
  rw [a1, g1]
  exact q1
theorem eqH_at {pins : List (Addr × Obj)} {σ : St} {H : Hp} {s : Shared} (I : Inv X pins σ H s) {n : Nat} {x y : V} {b : Bool} (h : EqH X.K H n x y b) : ∀ {A : Around} {u v : Value}, RelV x u → RelV y v → A.units + n ≤ cLine → SeqAt.EqAt A s u v b := by
  induction h with
  | flat f g => intro A u v r r' _; exact eqAt_V r r' f g
  | same => intro A u v r r' _; cases r; cases r'; exact SeqAt.EqAt.same _
  | @lst n a b xs ys e hne ha hb hl _ ih =>
    intro A u v r r' hu
    cases r; cases r'
    obtain ⟨us, r, pl, _⟩ := I.list ha
    obtain ⟨ws, r', pl', _⟩ := I.list hb
    refine SeqAt.EqAt.of_refs hne ?_
    have hz : us.toArray.size = ws.toArray.size := by simp only [List.size_toArray]; rw [← r.length, ← r'.length, hl]
    have e1 : xs.length = us.toArray.size := by rw [List.size_toArray, ← r.length]
    rw [e1]
    refine SeqAt.RcAt.lists pl.isList pl'.isList hz (by omega) fun j h1 h2 => ?_
    exact ih j (by rw [e1]; exact h1) (vals_at r h1) (vals_at r' h2) (by rw [in1_units]; omega)
  | lstN hne ha hb hl =>
    intro A u v r r' hu
    cases r; cases r'
    obtain ⟨us, r, pl, _⟩ := I.list ha
    obtain ⟨ws, r', pl', _⟩ := I.list hb
    refine SeqAt.EqAt.of_refs hne (SeqAt.RcAt.lists_lengths pl.isList pl'.isList ?_ (by omega))
    simp only [List.size_toArray]; rw [← r.length, ← r'.length]; exact bne_iff_ne.mpr hl
  | @tup n a b xs ys e hne ha hb hl _ ih =>
    intro A u v r r' hu
    cases r; cases r'
    obtain ⟨us, r, pl, _⟩ := I.tuple ha
    obtain ⟨ws, r', pl', _⟩ := I.tuple hb
    refine SeqAt.EqAt.of_refs hne ?_
    have hz : us.toArray.size = ws.toArray.size := by simp only [List.size_toArray]; rw [← r.length, ← r'.length, hl]
    have e1 : xs.length = us.toArray.size := by rw [List.size_toArray, ← r.length]
    rw [e1, show (List.range us.toArray.size).all e = ((List.range (min us.toArray.size ws.toArray.size)).all e && us.toArray.size == ws.toArray.size) by rw [← hz, Nat.min_self, beq_self_eq_true, Bool.and_true]]
    refine SeqAt.RcAt.tuples pl pl' (by omega) fun j h1 h2 => ?_
    exact ih j (by rw [e1]; exact h1) (vals_at r h1) (vals_at r' h2) (by rw [in1_units]; omega)
def rEqD (K : PySem.W.Frag) (neg : Bool) : R2 := fun x y H Q => ∃ a b xs ys, x = .ref a ∧ y = .ref b ∧ SqL K H a xs ∧ SqL K H b ys ∧
  ((xs.length ≠ ys.length ∧ Q (.bl neg) H) ∨ (xs.length = ys.length ∧ ∃ e : Nat → Bool, (∀ j, j < xs.length → EqH K H 60 (xs.getD j .non) (ys.getD j .non) (e j)) ∧ Q (.bl (if neg then !(List.range xs.length).all e else (List.range xs.length).all e)) H))
theorem op_eqD (hu : X.A.units + 64 < cLine) : OpR X (compareOp .Eq) (rEqD X.K false) := by
  intro pins s σ H x y v u Q I rx ry h
  obtain ⟨a, b, xs, ys, rfl, rfl, ha, hb, h⟩ := h
  cases rx
  cases ry
  obtain ⟨us, r, pl, _⟩ := I.list ha
  obtain ⟨ws, r', pl', _⟩ := I.list hb
  rcases h with ⟨hl, q⟩ | ⟨hl, e, he, q⟩
  · have hz : (us.toArray.size != ws.toArray.size) = true := by
      simp only [List.size_toArray]; rw [← r.length, ← r'.length]; exact bne_iff_ne.mpr hl
    exact SeqAt.eq_list_lengthsAt pl.isList pl'.isList hz (by omega) ⟨.bl false, H, I, rfl, q⟩
  · have hz : us.toArray.size = ws.toArray.size := by simp only [List.size_toArray]; rw [← r.length, ← r'.length, hl]
    have e1 : xs.length = us.toArray.size := by rw [List.size_toArray, ← r.length]
    refine SeqAt.eq_listAt (e := e) pl.isList pl'.isList hz (by omega) (fun j h1 h2 => eqH_at I (he j (by rw [e1]; exact h1)) (vals_at r h1) (vals_at r' h2) (by rw [in1_units]; omega)) ⟨.bl ((List.range xs.length).all e), H, I, ?_, q⟩
    show Value.bool _ = Value.bool _
    rw [e1]
theorem op_neD (hu : X.A.units + 64 < cLine) : OpR X (compareOp .NotEq) (rEqD X.K true) := by
  intro pins s σ H x y v u Q I rx ry h
  obtain ⟨a, b, xs, ys, rfl, rfl, ha, hb, h⟩ := h
  cases rx
  cases ry
  obtain ⟨us, r, pl, _⟩ := I.list ha
  obtain ⟨ws, r', pl', _⟩ := I.list hb
  rcases h with ⟨hl, q⟩ | ⟨hl, e, he, q⟩
  · have hz : (us.toArray.size != ws.toArray.size) = true := by
      simp only [List.size_toArray]; rw [← r.length, ← r'.length]; exact bne_iff_ne.mpr hl
    exact SeqAt.RcNeAt.lists_lengths pl.isList pl'.isList hz (by omega) _ _ _ _ ⟨.bl true, H, I, rfl, q⟩
  · have hz : us.toArray.size = ws.toArray.size := by simp only [List.size_toArray]; rw [← r.length, ← r'.length, hl]
    have e1 : xs.length = us.toArray.size := by rw [List.size_toArray, ← r.length]
    refine SeqAt.RcNeAt.lists (e := e) pl.isList pl'.isList hz (by omega) (fun j h1 h2 => eqH_at I (he j (by rw [e1]; exact h1)) (vals_at r h1) (vals_at r' h2) (by rw [in1_units]; omega)) _ _ _ _ ⟨.bl (!(List.range xs.length).all e), H, I, ?_, q⟩
    show Value.bool _ = Value.bool _
    rw [e1]
end
theorem comp_map {K : PySem.W.Frag} {α : Type} {a : Addr} {ps : List α} {r : α → V} {k : Nat} {g : TG} {tf : TT} {te : TE} {σ : St} {H : Hp} {Q : VK} (p : α → Bool) (f : α → V) (hq : SqL K H a (ps.map r)) (hl : ps.length ≤ sizeLine)
    (hs : ∀ x H', x ∈ ps → Same H H' → ∀ (R : V → Hp → Prop) (R0 : Hp → Prop), (p x = true → ∀ H2, Same H' H2 → R (f x) H2) → (p x = false → ∀ H2, Same H' H2 → R0 H2) →
      g (r x) (List.replicate k none ++ σ) H' fun σ4 H4 => σ4.drop k = σ ∧ tf σ4 H4 fun b H5 => if b = true then te σ4 H5 R else R0 H5)
    (hd : ∀ H', Same H H' → NewL Q ((ps.filter p).map f) H') :
    ∃ W : Nat → Nat → List V → Hp → Prop, (∃ m, W 0 m [] H) ∧ ∀ i m ys H2, W i m ys H2 →
      ((Itl K a).stop i H2 ∧ NewL Q ys H2) ∨
      ((Itl K a).go i H2 ∧ ys.length < sizeLine ∧ ∀ x H3, (Itl K a).yld i H2 x H3 → g x (List.replicate k none ++ σ) H3 fun σ4 H4 => σ4.drop k = σ ∧ tf σ4 H4 fun b H5 =>
        if b = true then te σ4 H5 fun y H6 => ∃ m', m' < m ∧ W (i + 1) m' (ys ++ [y]) H6 else ∃ m', m' < m ∧ W (i + 1) m' ys H5) := by
  refine ⟨fun i m ys H2 => m = ps.length - i ∧ i ≤ ps.length ∧ ys = ((ps.take i).filter p).map f ∧ Same H H2, ⟨ps.length, by simp, Nat.zero_le _, rfl, Same.refl H⟩, ?_⟩
  rintro i m ys H2 ⟨rfl, hi, rfl, sm⟩
  have q2 : SqL K H2 a (ps.map r) := sm.seq hq
  by_cases hlt : i < ps.length
  · refine .inr ⟨⟨ps.map r, r ps[i], q2, by simp [hlt]⟩, ?_, fun x H3 y => ?_⟩
    · rw [List.length_map]
      have := List.length_filter_le p (ps.take i)
      rw [List.length_take] at this
      omega
    · obtain ⟨e, y⟩ := y
      subst e
      have ex : (ps.map r)[i]? = some x := y _ q2
      have ei : ps[i]? = some ps[i] := by simp [hlt]
      have exr : x = r ps[i] := by rw [List.getElem?_map, ei] at ex; exact (Option.some.inj ex).symm
      subst exr
      have tk : ps.take (i + 1) = ps.take i ++ [ps[i]] := by rw [List.take_add_one, ei]; rfl
      refine hs ps[i] _ (List.getElem_mem hlt) sm _ _ (fun hp H4 s4 => ?_) (fun hp H4 s4 => ?_)
      · refine ⟨ps.length - (i + 1), by omega, rfl, hlt, ?_, sm.trans s4⟩
        rw [tk, List.filter_append, List.map_append]
        simp [hp]
      · refine ⟨ps.length - (i + 1), by omega, rfl, hlt, ?_, sm.trans s4⟩
        rw [tk, List.filter_append, List.map_append]
        simp [hp]
  · have e : i = ps.length := by omega
    subst e
    refine .inl ⟨⟨ps.map r, q2, by simp⟩, ?_⟩
    rw [List.take_length]
    exact hd H2 sm
theorem same_updN {H H1 : Hp} {p : Addr} {u : HO} (h : Same H H1) (hp : H p = none) : Same H (upd H1 p u) := fun b o e => by
  have hne : b ≠ p := fun z => by rw [z, hp] at e; cases e
  rw [upd_ne hne]
  exact h b o e
theorem upd_oth {H : Hp} {a p : Addr} {o u : HO} (h : H a = some o) (hne : a ≠ p) : upd H p u a = some o := by rw [upd_ne hne]; exact h
end L2
namespace L2
open PySem PySem.Spec PyProof.Rows
structure LcT (N M : List Str) (sc scope : Scope) (ts : List Str) : Prop where
  nd : (ts ++ M).Nodup
  kind : scope.kind = .function
  cell : (scope.names.all fun y => decide (y.2 ≠ .cell)) = true
  loc : (scope.names.all fun y => decide (y.2 = .local → scope.names.lookup y.1 = some .local)) = true
  free : (scope.names.all fun p => decide (p.2 = .free → sc.names.lookup p.1 = some .cell ∨ sc.names.lookup p.1 = some .free)) = true
  len : M.length = N.length
  apart : ((M.zip N).all fun y => decide (scope.names.lookup y.1 = none ∨ (y.2 = y.1 ∧ scope.names.lookup y.1 ≠ some .local))) = true
section
variable {X : Cx} {N M : List Str} {sc scope : Scope} {ts : List Str} {tg : Expr} {pos : Pos} {elt iter : Expr} {ifs : List Expr} {wi : TI} {g : TG} {tf : TT} {te : TE}
theorem LcT.ok (L : LcT N M sc scope ts) (eN : X.N = N) (es : X.env.scope = sc) : BlkOk X ts M scope := by
  subst eN es
  refine ⟨L.kind, fun y hy => of_decide_eq_true (List.all_eq_true.mp L.cell y hy), fun y hy => of_decide_eq_true (List.all_eq_true.mp L.loc y hy), fun y hy => of_decide_eq_true (List.all_eq_true.mp L.free y hy), L.len, fun i y hy => ?_⟩
  have hi : i < M.length := (List.getElem?_eq_some_iff.mp hy).1
  have hi2 : i < X.N.length := by rw [← L.len]; exact hi
  have hz : (M.zip X.N)[i]? = some (y, X.N[i]) := by rw [List.getElem?_zip_eq_some]; exact ⟨hy, List.getElem?_eq_getElem hi2⟩
  rcases of_decide_eq_true (List.all_eq_true.mp L.apart _ (List.mem_of_getElem? hz)) with z | ⟨z1, z2⟩
  · exact .inl z
  · exact .inr ⟨by rw [List.getElem?_eq_getElem hi2]; exact congrArg some z1, z2⟩
theorem LcT.nm (L : LcT N M sc scope ts) (eN : X.N = N) (i : Nat) {x : Str} {px : Pos} (hx : ts[i]? = some x) (own : scope.names.lookup x = some .local) (cl : List (Str × Addr)) (C : Addr) (fp : List Addr) (s : Shared) (H : Hp) : PG (X.blk ts M scope cl C fp s H) (.Name x px) (gName i) :=
  pg_name (X := X.blk ts M scope cl C fp s H) (i := i) (by show (ts ++ M).Nodup; exact L.nd)
    (by show (ts ++ M)[i]? = some x
        have hi : i < ts.length := (List.getElem?_eq_some_iff.mp hx).1
        rw [List.getElem?_append_left hi]; exact hx) (.inl (lookup_relabel_local own)) (.inr (lookup_relabel_local own))
theorem pe_lcT (L : LcT N M sc scope ts) (eN : X.N = N) (es : X.env.scope = sc) (hc : X.calm = true) (hi : PI X tg iter wi) (hg : LcT N M sc scope ts → ∀ cl C fp s H, PG (X.blk ts M scope cl C fp s H) tg g) (hif : ∀ cl C fp s H, PIf (X.blk ts M scope cl C fp s H) ifs tf) (he : ∀ cl C fp s H, PE (X.blk ts M scope cl C fp s H) elt te)
    (hs : ∀ x, foldedSetIterable iter X.env x = pure x := by intro _; rfl) : PE X (.ListComp elt [⟨tg, iter, ifs, 0⟩] scope pos) (tComp ts.length wi g tf te) :=
  pe_lcG (ts := ts) (M := M) (L.ok eN es) hc hi (hg L) hif he hs
theorem ps_lcT {i : Nat} {y : Str} {py spos : Pos} (hN : X.N.Nodup) (hy : X.N[i]? = some y) (hk : X.env.kindOf y = some .local) (L : LcT N M sc scope ts) (eN : X.N = N) (es : X.env.scope = sc) (hc : X.calm = true) (hi : PI X tg iter wi)
    (hg : LcT N M sc scope ts → ∀ cl C fp s H, PG (X.blk ts M scope cl C fp s H) tg g) (hif : ∀ cl C fp s H, PIf (X.blk ts M scope cl C fp s H) ifs tf) (he : ∀ cl C fp s H, PE (X.blk ts M scope cl C fp s H) elt te)
    (hsw : swapsWith (.ListComp elt [⟨tg, iter, ifs, 0⟩] scope pos) (some (.Name y py)) spos.line X.env = pure true := by with_unfolding_all rfl) (hs : ∀ x, foldedSetIterable iter X.env x = pure x := by intro _; rfl) :
    PS X (.Assign [.Name y py] (.ListComp elt [⟨tg, iter, ifs, 0⟩] scope pos) spos) (tAsg (tComp ts.length wi g tf te) (gName i)) :=
  ps_lcG (ts := ts) (M := M) hN hy hk (L.ok eN es) hc hi (hg L) hif he hsw hs
end
theorem pg_tupK {X : Cx} {pos : Pos} {es : List Expr} {k : Nat} {t : TGs} (K : PySem.W.Frag) (n : Nat) (hK : X.K = K) (hc : X.calm = true) (h : PGs X es t)
    (hn : (assignEach es X.env).length = n := by rfl) (hst : (assignEach es X.env).findIdx? (·.1) = none := by rfl) : PG X (.Tuple es k pos) (gTup K n t) := by
  subst hK
  exact pg_tup hc h hn hst
theorem hu1 {n : Nat} (h : n + 64 < cLine) : n + 1 < cLine := by omega
theorem comp_all {K : PySem.W.Frag} {α : Type} {a : Addr} {ps : List α} {r : α → V} {k : Nat} {g : TG} {te : TE} {σ : St} {H : Hp} {Q : VK} (f : α → V) (hq : SqL K H a (ps.map r)) (hl : ps.length ≤ sizeLine)
    (hs : ∀ x H', x ∈ ps → Same H H' → ∀ (R : V → Hp → Prop), (∀ H2, Same H' H2 → R (f x) H2) → g (r x) (List.replicate k none ++ σ) H' fun σ4 H4 => σ4.drop k = σ ∧ te σ4 H4 R)
    (hd : ∀ H', Same H H' → NewL Q (ps.map f) H') :
    ∃ W : Nat → Nat → List V → Hp → Prop, (∃ m, W 0 m [] H) ∧ ∀ i m ys H2, W i m ys H2 →
      ((Itl K a).stop i H2 ∧ NewL Q ys H2) ∨
      ((Itl K a).go i H2 ∧ ys.length < sizeLine ∧ ∀ x H3, (Itl K a).yld i H2 x H3 → g x (List.replicate k none ++ σ) H3 fun σ4 H4 => σ4.drop k = σ ∧ tYes σ4 H4 fun b H5 =>
        if b = true then te σ4 H5 fun y H6 => ∃ m', m' < m ∧ W (i + 1) m' (ys ++ [y]) H6 else ∃ m', m' < m ∧ W (i + 1) m' ys H5) := by
  refine ⟨fun i m ys H2 => m = ps.length - i ∧ i ≤ ps.length ∧ ys = (ps.take i).map f ∧ Same H H2, ⟨ps.length, by simp, Nat.zero_le _, rfl, Same.refl H⟩, ?_⟩
  rintro i m ys H2 ⟨rfl, hi, rfl, sm⟩
  have q2 : SqL K H2 a (ps.map r) := sm.seq hq
  by_cases hlt : i < ps.length
  · refine .inr ⟨⟨ps.map r, r ps[i], q2, by simp [hlt]⟩, ?_, fun x H3 y => ?_⟩
    · rw [List.length_map, List.length_take]; omega
    · obtain ⟨e, y⟩ := y
      subst e
      have ex : (ps.map r)[i]? = some x := y _ q2
      have ei : ps[i]? = some ps[i] := by simp [hlt]
      have exr : x = r ps[i] := by rw [List.getElem?_map, ei] at ex; exact (Option.some.inj ex).symm
      subst exr
      refine hs ps[i] _ (List.getElem_mem hlt) sm _ fun H4 s4 => ?_
      refine ⟨ps.length - (i + 1), by omega, rfl, hlt, ?_, sm.trans s4⟩
      rw [List.take_add_one, ei, List.map_append]
      rfl
  · have e : i = ps.length := by omega
    subst e
    refine .inl ⟨⟨ps.map r, q2, by simp⟩, ?_⟩
    rw [List.take_length]
    exact hd H2 sm
theorem comp_inv {K : PySem.W.Frag} {α : Type} {a : Addr} {ps : List α} {r : α → V} {k : Nat} {g : TG} {te : TE} {σ : St} {H : Hp} {Q : VK} (J : Nat → List V → Hp → Prop) (j0 : J 0 [] H) (hq : ∀ i ys H', J i ys H' → SqL K H' a (ps.map r)) (hn : ∀ i ys H', J i ys H' → ys.length ≤ i) (hl : ps.length ≤ sizeLine)
    (hs : ∀ i x ys H', ps[i]? = some x → J i ys H' → g (r x) (List.replicate k none ++ σ) H' fun σ4 H4 => σ4.drop k = σ ∧ te σ4 H4 fun y H6 => J (i + 1) (ys ++ [y]) H6)
    (hd : ∀ ys H', J ps.length ys H' → NewL Q ys H') :
    ∃ W : Nat → Nat → List V → Hp → Prop, (∃ m, W 0 m [] H) ∧ ∀ i m ys H2, W i m ys H2 →
      ((Itl K a).stop i H2 ∧ NewL Q ys H2) ∨
      ((Itl K a).go i H2 ∧ ys.length < sizeLine ∧ ∀ x H3, (Itl K a).yld i H2 x H3 → g x (List.replicate k none ++ σ) H3 fun σ4 H4 => σ4.drop k = σ ∧ tYes σ4 H4 fun b H5 =>
        if b = true then te σ4 H5 fun y H6 => ∃ m', m' < m ∧ W (i + 1) m' (ys ++ [y]) H6 else ∃ m', m' < m ∧ W (i + 1) m' ys H5) := by
  refine ⟨fun i m ys H2 => m = ps.length - i ∧ i ≤ ps.length ∧ J i ys H2, ⟨ps.length, by simp, Nat.zero_le _, j0⟩, ?_⟩
  rintro i m ys H2 ⟨rfl, hi, jj⟩
  have q2 : SqL K H2 a (ps.map r) := hq i ys H2 jj
  by_cases hlt : i < ps.length
  · refine .inr ⟨⟨ps.map r, r ps[i], q2, by simp [hlt]⟩, ?_, fun x H3 y => ?_⟩
    · have := hn i ys H2 jj
      omega
    · obtain ⟨e, y⟩ := y
      subst e
      have ex : (ps.map r)[i]? = some x := y _ q2
      have ei : ps[i]? = some ps[i] := by simp [hlt]
      have exr : x = r ps[i] := by rw [List.getElem?_map, ei] at ex; exact (Option.some.inj ex).symm
      subst exr
      have h := hs i ps[i] ys _ ei jj
      have mono : ∀ y H6, J (i + 1) (ys ++ [y]) H6 → ∃ m', m' < ps.length - i ∧ m' = ps.length - (i + 1) ∧ i + 1 ≤ ps.length ∧ J (i + 1) (ys ++ [y]) H6 := fun y H6 z => ⟨ps.length - (i + 1), by omega, rfl, hlt, z⟩
      have fe : (fun (y : V) (H6 : Hp) => J (i + 1) (ys ++ [y]) H6) = fun y H6 => ∃ m', m' < ps.length - i ∧ m' = ps.length - (i + 1) ∧ i + 1 ≤ ps.length ∧ J (i + 1) (ys ++ [y]) H6 := by
        funext y H6
        exact propext ⟨mono y H6, fun ⟨_, _, _, _, z⟩ => z⟩
      rw [fe] at h
      exact h
  · have e : i = ps.length := by omega
    subst e
    exact .inl ⟨⟨ps.map r, q2, by simp⟩, hd ys H2 jj⟩
end L2
namespace L2
open PySem PySem.Spec PyProof.Rows
end L2
namespace L2
open PySem PySem.Spec PyProof.Rows
section
variable (P : Program) (w : World)
end
section
variable {P : Program} {w : World} {H H' : Hp} {h h' : Heap} {a : Addr} {o : HO}
end
section
variable {P : Program} {w : World} {H : Hp} {h h' : Heap} {x e : Addr} {o' : HO}
end
section
variable {fs fs' ex ex' : List Addr} {H H1 H2 : Hp} {h h1 h2 h' : Heap} {a x e : Addr} {o : HO}
end
end L2
namespace L2
open PySem PySem.Spec PyProof.Rows
section
variable {X : Cx} {pins : List (Addr × Obj)} {σ : List (Option V)} {H H' : Hp} {s : Shared} {h' : Heap}
end
end L2
namespace L2
open PySem PySem.Spec PyProof.Rows
section
variable {X : Cx}
variable {a b : Expr} {ta tb : TE} {pos : Pos}
variable {tA tB' : TT} {rest : List Expr}
end
end L2
namespace L2
open PySem PySem.Spec PyProof.Rows
section
variable {X : Cx} {pins : List (Addr × Obj)} {σ : St} {H : Hp} {s : Shared} {a : Addr} {xs ys : List V}
end
section
variable {X : Cx} {pins : List (Addr × Obj)} {σ : St} {H : Hp} {s : Shared} {E : Value → Shared → Prop}
end
section
variable {X : Cx} {st : Stmt} {rest : List Stmt} {t u : TS} {e : Expr} {te : TE} {pos : Pos}
end
section
variable {X : Cx} {pos : Pos}
end
section
variable {X : Cx} {pos : Pos}
end
end L2
namespace L2
open PySem PySem.Spec PyProof.Rows
section
variable {X : Cx} {tg : Expr}
end
end L2
namespace L2
open PySem PySem.Spec PyProof.Rows
section
variable {X : Cx} {a b c : Expr} {ta tb tc : TE} {pos : Pos}
end
section
variable {X : Cx} {a b c : Expr} {ta tb tc : TE} {pos : Pos}
end
end L2
namespace L2
open PySem PySem.Spec PyProof.Rows
section
variable {prog : Program} {w : World} {A : Around} {E : Value → Shared → Prop} {s : Shared} {K : PySem.W.Frag} {x dx C f : Addr} {mA : Str → Option Value} {name : Str} {v : Value}
end
section
variable {P : Program} {w : World} {H H' : Hp} {h h' : Heap} {a C dx : Addr} {fs fs' : List (Str × V)}
end
section
variable {X : Cx} {pins : List (Addr × Obj)} {σ : St} {H : Hp} {s : Shared} {a C dx : Addr} {fs : List (Str × V)} {f : Str} {v : V} {A : Around} {E : Value → Shared → Prop}
end
section
variable {X : Cx} {o e value : Expr} {f : Str} {pos pos' tpos : Pos} {ta tv : TE}
end
section
variable {X : Cx} {pins : List (Addr × Obj)} {σ : St} {H : Hp} {s : Shared} {A : Around} {E : Value → Shared → Prop} {Q : Value → Shared → Prop} {c : Value} {b : Bool}
end
end L2
namespace L2
open PySem PySem.Spec PyProof.Rows
section
variable {X : Cx} {e : Expr} {es : List Expr} {te : TE} {t : TA} {pos : Pos}
end
section
variable {X : Cx} {pins : List (Addr × Obj)} {σ : St} {H : Hp} {s s' : Shared}
end
section
variable {X : Cx} {CX : CXT} {k : Nat} {f C : Addr} {fd : FuncData} {ps : List Str} {sp : Sp} {dvs : List V} {ds : List Value} {E : XK} {x m : Str} {p pos apos : Pos} {e o : Expr} {es : List Expr} {ta : TE} {t : TA}
end
section
variable {X : Cx} {CX : CXT} {k : Nat} {f C : Addr} {fd : FuncData} {ps ks : List Str} {sp : Sp} {E : XK} {x m : Str} {p pos apos kpos : Pos} {e o : Expr} {es : List Expr} {kws : List Keyword} {te ta : TE} {t tk : TA} {nm : Option Str}
variable {g : List Value → List Value → List Value} {gV : List V → List V → List V}
end
end L2
namespace L2
open PySem PySem.Spec PyProof.Rows
section
variable {X : Cx} {x : Str} {p pos : Pos} {e : Expr} {es : List Expr} {t : TA} {id T : String} {r : List V → Hp → VK → Prop}
end
end L2
namespace L2
open PySem PySem.Spec PyProof.Rows
section
variable {κ : Type} [DecidableEq κ]
def valV (kvs : List (κ × V)) (k : κ) : Option V := (kvs.find? fun kv => decide (kv.1 = k)).map (·.2)
def putK (kvs : List (κ × V)) (k : κ) (v : V) : List (κ × V) :=
  if (kvs.any fun kv => decide (kv.1 = k)) = true then kvs.map (fun kv => if kv.1 = k then (kv.1, v) else kv) else kvs ++ [(k, v)]
theorem valV_pos {p : κ × V} {r : List (κ × V)} {k : κ} (e : p.1 = k) : valV (p :: r) k = some p.2 := by simp [valV, List.find?_cons, e]
theorem valV_neg {p : κ × V} {r : List (κ × V)} {k : κ} (e : ¬ p.1 = k) : valV (p :: r) k = valV r k := by simp [valV, List.find?_cons, e]
theorem valV_any (k : κ) : ∀ kvs : List (κ × V), (kvs.any fun kv => decide (kv.1 = k)) = (valV kvs k).isSome
  | [] => rfl
  | p :: r => by
    rw [List.any_cons]
    by_cases e : p.1 = k
    · simp only [valV_pos e, decide_eq_true e, Bool.true_or, Option.isSome_some]
    · rw [valV_neg e, decide_eq_false e, Bool.false_or]; exact valV_any k r
theorem length_putK (kvs : List (κ × V)) (k : κ) (v : V) : (putK kvs k v).length ≤ kvs.length + 1 := by
  unfold putK
  split
  · rw [List.length_map]; omega
  · rw [List.length_append, List.length_cons, List.length_nil]; omega
theorem putK_new {kvs : List (κ × V)} {k : κ} (v : V) (h : valV kvs k = none) : putK kvs k v = kvs ++ [(k, v)] := by
  unfold putK
  rw [valV_any, h]
  exact if_neg (by decide)
theorem RelO.isSome_eq {o : Option V} {u : Option Value} (r : RelO o u) : o.isSome = u.isSome := by
  cases o with
  | none => cases u with
    | none => rfl
    | some _ => exact (show False from r).elim
  | some _ => cases u with
    | none => exact (show False from r).elim
    | some _ => rfl
theorem RelO.getD {o : Option V} {u : Option Value} {d : V} {d' : Value} (r : RelO o u) (rd : RelV d d') : RelV (o.getD d) (u.getD d') := by
  cases o with
  | none => cases u with
    | none => exact rd
    | some _ => exact (show False from r).elim
  | some _ => cases u with
    | none => exact (show False from r).elim
    | some _ => exact r
theorem KV.val {kvs : List (κ × V)} {vs : List (κ × Value)} (r : KV kvs vs) (k : κ) : RelO (valV kvs k) (valueAt vs k) := by
  unfold KV at r
  induction r with
  | nil => exact True.intro
  | @cons p q ps qs h t ih =>
    obtain ⟨h1, h2⟩ := h
    by_cases e : p.1 = k
    · have e' : q.1 = k := h1.symm.trans e
      have b : valueAt (q :: qs) k = some q.2 := by simp [valueAt, List.find?_cons, e']
      rw [valV_pos e, b]; exact h2
    · have e' : ¬ q.1 = k := fun z => e (h1.trans z)
      have b : valueAt (q :: qs) k = valueAt qs k := by simp [valueAt, List.find?_cons, e']
      rw [valV_neg e, b]; exact ih
theorem KV.any {kvs : List (κ × V)} {vs : List (κ × Value)} (r : KV kvs vs) (k : κ) : (kvs.any fun kv => decide (kv.1 = k)) = vs.any fun kv => decide (kv.1 = k) := by
  unfold KV at r
  induction r with
  | nil => rfl
  | cons h t ih => rw [List.any_cons, List.any_cons, ih, h.1]
theorem KV.repl {kvs : List (κ × V)} {vs : List (κ × Value)} (r : KV kvs vs) (k : κ) {y : V} {u : Value} (ry : RelV y u) :
    KV (kvs.map fun kv => if kv.1 = k then (kv.1, y) else kv) (vs.map fun kv => if kv.1 = k then (kv.1, u) else kv) := by
  unfold KV at r ⊢
  induction r with
  | nil => exact .nil
  | @cons p q ps qs h t ih =>
    rw [List.map_cons, List.map_cons]
    refine .cons ?_ ih
    obtain ⟨h1, h2⟩ := h
    by_cases e : p.1 = k
    · rw [if_pos e, if_pos (h1.symm.trans e)]; exact ⟨h1, ry⟩
    · rw [if_neg e, if_neg (fun z => e (h1.trans z))]; exact ⟨h1, h2⟩
theorem KV.put {kvs : List (κ × V)} {vs : List (κ × Value)} (r : KV kvs vs) (k : κ) {y : V} {u : Value} (ry : RelV y u) : KV (putK kvs k y) (stored vs k u) := by
  unfold putK stored
  rw [r.any k]
  by_cases e : (vs.any fun kv => decide (kv.1 = k)) = true
  · rw [if_pos e, if_pos e]; exact r.repl k ry
  · rw [if_neg e, if_neg e]; exact Paired.snoc r ⟨rfl, ry⟩
theorem KV.keys {kvs : List (κ × V)} {vs : List (κ × Value)} (r : KV kvs vs) : kvs.map (·.1) = vs.map (·.1) := by
  unfold KV at r
  induction r with
  | nil => rfl
  | cons h t ih => rw [List.map_cons, List.map_cons, ih, h.1]
theorem KV.length {kvs : List (κ × V)} {vs : List (κ × Value)} (r : KV kvs vs) : kvs.length = vs.length := Paired.length r
end
theorem kV_is {P : Program} {w : World} {k : Key} {u : Value} (r : RelV (kV k) u) : (mixKind P w).is k u = true := by
  cases k with
  | inl i => obtain ⟨t, e⟩ := (show ∃ t, u = Value.int i t from r); subst e; exact mixKind_int P w i t
  | inr x => obtain ⟨t, e⟩ := (show ∃ t, u = Value.str x t from r); subst e; exact mixKind_str P w x t
theorem items_are {P : Program} {w : World} : ∀ {ks : List Key} {us : List Value}, Vals (ks.map kV) us → ItemsAre (mixKind P w) ks us
  | [], _, r => by rw [List.map_nil] at r; cases r; exact .nil
  | k :: ks, _, r => by
    rw [List.map_cons] at r
    cases r with
    | cons h t => exact .cons (kV_is h) (items_are t)
abbrev KT (H : Hp) : List (List Key × V) → List (List Key × Addr × Value) → Prop := Paired fun p q => p.1 = q.1 ∧ H q.2.1 = some (.tup (p.1.map kV)) ∧ RelV p.2 q.2.2
theorem KT.val {H : Hp} {kvs : List (List Key × V)} {xs : List (List Key × Addr × Value)} (r : KT H kvs xs) (k : List Key) : RelO (valV kvs k) ((atKey xs k).map (·.2)) := by
  induction r with
  | nil => exact True.intro
  | @cons p q ps qs h t ih =>
    obtain ⟨h1, _, h2⟩ := h
    by_cases e : p.1 = k
    · have e' : q.1 = k := h1.symm.trans e
      have b : atKey (q :: qs) k = some q.2 := by simp [atKey, List.find?_cons, e']
      rw [valV_pos e, b]; exact h2
    · have e' : ¬ q.1 = k := fun z => e (h1.trans z)
      have b : atKey (q :: qs) k = atKey qs k := by simp [atKey, List.find?_cons, e']
      rw [valV_neg e, b]; exact ih
theorem KT.repl {H : Hp} {kvs : List (List Key × V)} {xs : List (List Key × Addr × Value)} (r : KT H kvs xs) (k : List Key) {y : V} {u : Value} (ry : RelV y u) :
    KT H (kvs.map fun kv => if kv.1 = k then (kv.1, y) else kv) (xs.map (putAt k u)) := by
  induction r with
  | nil => exact .nil
  | @cons p q ps qs h t ih =>
    rw [List.map_cons, List.map_cons]
    refine .cons ?_ ih
    obtain ⟨h1, h2, h3⟩ := h
    unfold putAt
    by_cases e : p.1 = k
    · rw [if_pos e, if_pos (h1.symm.trans e)]; exact ⟨h1, h2, ry⟩
    · rw [if_neg e, if_neg (fun z => e (h1.trans z))]; exact ⟨h1, h2, h3⟩
theorem KT.put {H : Hp} {kvs : List (List Key × V)} {xs : List (List Key × Addr × Value)} (r : KT H kvs xs) (k : List Key) {b : Addr} {y : V} {u : Value} (hb : H b = some (.tup (k.map kV))) (ry : RelV y u) :
    KT H (putK kvs k y) (storedH xs k b u) := by
  have e : (kvs.any fun kv => decide (kv.1 = k)) = (atKey xs k).isSome := by
    rw [valV_any, (r.val k).isSome_eq, Option.isSome_map]
  unfold putK storedH
  rw [e]
  by_cases q : (atKey xs k).isSome = true
  · rw [if_pos q, if_pos q]; exact r.repl k ry
  · rw [if_neg q, if_neg q]; exact Paired.snoc r ⟨rfl, hb, ry⟩
theorem KT.keeps {H H' : Hp} {kvs : List (List Key × V)} {xs : List (List Key × Addr × Value)} (r : KT H kvs xs) (ht : ∀ b ys, H b = some (.tup ys) → H' b = some (.tup ys)) : KT H' kvs xs :=
  Paired.mapP r fun _ _ z => ⟨z.1, ht _ _ z.2.1, z.2.2⟩
section
variable {P : Program} {w : World} {H : Hp} {h : Heap} {a : Addr}
theorem rd_of {u : HO} (ok : HOk P w H h) (e : Rd H a u) : ObjOk P w H h a u := e.ok ok
theorem dk_rd {kvs : List (Key × V)} (ok : HOk P w H h) (e : Rd H a (.dK kvs)) : kvs.length ≤ sizeLine ∧ (a == sysModules) = false ∧ ∃ vs, KV kvs vs ∧ h.DictOf (mixKind P w) a vs :=
  show ObjOk P w H h a (.dK kvs) from rd_of ok e
theorem dk_of {kvs : List (Key × V)} (ok : HOk P w H h) (e : H a = some (.dK kvs)) : kvs.length ≤ sizeLine ∧ (a == sysModules) = false ∧ ∃ vs, KV kvs vs ∧ h.DictOf (mixKind P w) a vs := dk_rd ok (.inl e)
theorem key_of {ks : List Key} (ok : HOk P w H h) (e : H a = some (.tup (ks.map kV))) : (tupleKind (mixKind P w)).is h ks a := by
  obtain ⟨_, its, r, o, h1, h2, n, h3⟩ := (show ObjOk P w H h a (.tup (ks.map kV)) from ok a _ e)
  exact ⟨o, its.toArray, n, h1, h2, h3, by simpa using items_are r⟩
theorem dt_rd {kvs : List (List Key × V)} (ok : HOk P w H h) (e : Rd H a (.dT kvs)) : kvs.length ≤ sizeLine ∧ (a == sysModules) = false ∧
    ∃ xs, KT H kvs xs ∧ h.DictOfH (tupleKind (mixKind P w)) a xs := by
  obtain ⟨z, y, xs, r, o, es, ep, h1, h2, h3, h4, h5⟩ := (show ObjOk P w H h a (.dT kvs) from rd_of ok e)
  refine ⟨z, y, xs, r, o, es, ep, h1, h2, h3, h4, fun x hx => ?_, h5⟩
  have all : ∀ {l : List (List Key × V)} {m : List (List Key × Addr × Value)}, KT H l m → ∀ x ∈ m, (tupleKind (mixKind P w)).is h x.1 x.2.1 := by
    intro l m q
    induction q with
    | nil => intro x hx; exact nomatch hx
    | @cons p q ps qs hq t ih =>
      intro x hx
      rcases List.mem_cons.mp hx with e | hx
      · subst e
        exact key_of ok (by rw [← hq.1]; exact hq.2.1)
      · exact ih x hx
  exact all r x hx
theorem dt_of {kvs : List (List Key × V)} (ok : HOk P w H h) (e : H a = some (.dT kvs)) : kvs.length ≤ sizeLine ∧ (a == sysModules) = false ∧
    ∃ xs, KT H kvs xs ∧ h.DictOfH (tupleKind (mixKind P w)) a xs := dt_rd ok (.inl e)
end
def DGet (H : Hp) (a : Addr) (y : V) (r : Option V) : Prop :=
  (∃ kvs k, Rd H a (.dK kvs) ∧ y = kV k ∧ r = valV kvs k) ∨ ∃ kvs k b, Rd H a (.dT kvs) ∧ y = .ref b ∧ H b = some (.tup (k.map kV)) ∧ r = valV kvs k
def DPut (H : Hp) (a : Addr) (y v : V) (H' : Hp) : Prop :=
  (∃ kvs k, H a = some (.dK kvs) ∧ y = kV k ∧ kvs.length < sizeLine ∧ H' = upd H a (.dK (putK kvs k v))) ∨
  ∃ kvs k b, H a = some (.dT kvs) ∧ y = .ref b ∧ H b = some (.tup (k.map kV)) ∧ kvs.length < sizeLine ∧ H' = upd H a (.dT (putK kvs k v))
theorem DGet.t {H : Hp} {a b : Addr} {kvs : List (List Key × V)} {k : List Key} (e : H a = some (.dT kvs)) (eb : H b = some (.tup (k.map kV))) : DGet H a (.ref b) (valV kvs k) := .inr ⟨kvs, k, b, .inl e, rfl, eb, rfl⟩
theorem DPut.t {H : Hp} {a b : Addr} {kvs : List (List Key × V)} {k : List Key} {v : V} (e : H a = some (.dT kvs)) (eb : H b = some (.tup (k.map kV))) (hl : kvs.length < sizeLine) :
    DPut H a (.ref b) v (upd H a (.dT (putK kvs k v))) := .inr ⟨kvs, k, b, e, rfl, eb, hl, rfl⟩
section
variable {X : Cx} {pins : List (Addr × Obj)} {σ : St} {H : Hp} {s : Shared} {a : Addr} {y v : V} {u r : Value} {o : Option V} {A : Around} {E : Value → Shared → Prop}
theorem Inv.big (I : Inv X pins σ H s) : sysModules < s.heap.objs.size := by
  have h : mainGlobals < s.heap.objs.size := (I.mod.glob.keeps I.bk).lt
  exact Nat.lt_trans (by decide) h
theorem d_getItem {Q : Value → Shared → Prop} (hu : A.units + 1 < cLine) (I : Inv X pins σ H s) (g : DGet H a y (some v)) (ry : RelV y u) (h : ∀ w' s', Inv X pins σ H s' → RelV v w' → Q w' s') :
    wpAny (model X.prog X.w) A (getItem (.ref a) u) Q E s := by
  rcases g with ⟨kvs, k, e, ey, l⟩ | ⟨kvs, k, b, e, ey, eb, l⟩
  · subst ey
    obtain ⟨z, hd, vs, rel, dd⟩ := dk_rd I.hok e
    obtain ⟨w', hw, rw'⟩ := RelO.some_of (v := v) (o := valueAt vs k) (by rw [l]; exact rel.val k)
    exact wpAny_getItem_of (kV_is ry) dd.mapOf hw (h w' _ (I.tok _) rw')
  · subst ey
    cases (show u = Value.ref b from ry)
    obtain ⟨z, hd, xs, rel, dd⟩ := dt_rd I.hok e
    obtain ⟨w', hw, rw'⟩ := RelO.some_of (v := v) (o := (atKey xs k).map (·.2)) (by rw [l]; exact rel.val k)
    obtain ⟨p, hp, hp2⟩ := Option.map_eq_some_iff.mp hw
    refine wpAny_getItem_heap (tupleKind_room_in1 hu) (key_of I.hok eb) dd hp ?_
    rw [hp2]
    exact h w' _ (I.tok _) rw'
theorem d_notIn {Q : Value → Shared → Prop} (hu : A.units + 1 < cLine) (I : Inv X pins σ H s) (g : DGet H a y o) (ry : RelV y u) (h : ∀ s', Inv X pins σ H s' → Q (.bool (!o.isSome)) s') :
    wpAny (model X.prog X.w) A (compareOp .NotIn u (.ref a)) Q E s := by
  rcases g with ⟨kvs, k, e, ey, l⟩ | ⟨kvs, k, b, e, ey, eb, l⟩
  · subst ey
    obtain ⟨z, hd, vs, rel, dd⟩ := dk_rd I.hok e
    refine wpAny_notIn_of (kV_is ry) hd dd.mapOf ?_
    rw [← (rel.val k).isSome_eq, ← l]
    exact h _ (I.tok _)
  · subst ey
    cases (show u = Value.ref b from ry)
    obtain ⟨z, hd, xs, rel, dd⟩ := dt_rd I.hok e
    refine wpAny_notIn_heap (tupleKind_room_in1 hu) (key_of I.hok eb) hd dd ?_
    have q := (rel.val k).isSome_eq
    rw [Option.isSome_map] at q
    rw [← q, ← l]
    exact h _ (I.tok _)
theorem d_write {h' : Heap} {t' : Nat} {ob : HO} (I : Inv X pins σ H s) (mu : Mut (H a)) (hs : Heap.SameBut a s.heap h') (he : ∃ q, h'.get? a = some q) (new : ObjOk X.prog X.w (upd H a ob) h' a ob) :
    Inv X pins σ (upd H a ob) { s with heap := h', toks := t' } :=
  I.write (x := a) (e := a) mu (.inl rfl) (fun b q hb z => (hs.2 b hb).trans z) he new
theorem dk_new {P : Program} {w : World} {H' : Hp} {h' : Heap} {kvs : List (Key × V)} {vs : List (Key × Value)} (z : kvs.length ≤ sizeLine) (hd : (a == sysModules) = false) (rel : KV kvs vs) (dd : h'.DictOf (mixKind P w) a vs) :
    ObjOk P w H' h' a (.dK kvs) := ⟨z, hd, vs, rel, dd⟩
theorem d_setItem {H' : Hp} {Q : Unit → Shared → Prop} (hu : A.units + 1 < cLine) (I : Inv X pins σ H s) (g : DPut H a y v H') (ry : RelV y u) (rv : RelV v r) (h : ∀ s', Inv X pins σ H' s' → Q () s') :
    wpAny (model X.prog X.w) A (setItem (.ref a) u r) Q E s := by
  rcases g with ⟨kvs, k, e, ey, l, eH⟩ | ⟨kvs, k, b, e, ey, eb, l, eH⟩
  · subst ey eH
    obtain ⟨z, hd, vs, rel, dd⟩ := dk_of I.hok e
    have hz : vs.length ≤ sizeLine := by rw [← rel.length]; exact z
    have hl : (putK kvs k v).length ≤ sizeLine := by have := length_putK kvs k v; omega
    refine wpAny_setItem_pairs (hsz := hz) (kV_is ry) dd fun h' dd' hs => h _ ?_
    have he : ∃ q, h'.get? a = some q := let ⟨q, _, _, hq, _⟩ := dd'; ⟨q, hq⟩
    exact d_write I (by rw [e]; exact True.intro) hs he (dk_new hl hd (rel.put k rv) dd')
  · subst ey eH
    cases (show u = Value.ref b from ry)
    obtain ⟨z, hd, xs, rel, dd⟩ := dt_of I.hok e
    have hz : xs.length ≤ sizeLine := by rw [← Paired.length rel]; exact z
    have hl : (putK kvs k v).length ≤ sizeLine := by have := length_putK kvs k v; omega
    refine wpAny_setItem_heap (hsz := hz) (tupleKind_room_in1 hu) (key_of I.hok eb) dd fun h' dd' hs => h _ ?_
    obtain ⟨q, es, ep, hq, h2, h3, h4, _, h5⟩ := dd'
    refine d_write I (by rw [e]; exact True.intro) hs ⟨q, hq⟩ ⟨hl, hd, _, (rel.put k eb rv).keeps fun c ys ec => ?_, q, es, ep, hq, h2, h3, h4, h5⟩
    rw [upd_ne (ne_of ec e (fun z => nomatch z))]
    exact ec
end
section
variable {X : Cx} {pins : List (Addr × Obj)} {σ : St} {H : Hp} {s : Shared} {a : Addr} {kvs : List (Key × V)} {k : Key} {u : Value} {A : Around} {E : Value → Shared → Prop}
end
def NoSl (i : Expr) : Prop := ∀ ov iv, subscripted i false ov iv = operate [ov, iv] (getItem ov iv)
theorem subD_of {prog : Program} {w : World} {A : Around} {E : Value → Shared → Prop} {s : Shared} {env : Env} {value slice : Expr} {pos : Pos} {T id : String} {Q : Value → Shared → Prop}
    (hl : typeLookup (.type T) "__getitem__" = pure (some (.builtin id))) (hs : NoSl slice)
    (h : wpAny (model prog w) A (eval value env) (fun o s₁ => wpAny (model prog w) A (eval slice env) (fun i s₂ => s₂.TypeIs o T ∧ wpAny (model prog w) A (getItem o i) Q E s₂) E s₁) E s) :
    wpAny (model prog w) A (eval (.Subscript value slice pos) env) Q E s := by
  refine Subscript_ (wpAny_mono h (fun o s₁ h₁ => wpAny_mono h₁ (fun i s₂ h₂ => ?_) fun _ _ x => x) fun _ _ x => x)
  obtain ⟨hT, h₂⟩ := h₂
  unfold subscriptTail
  refine wpAny_bind ?_
  rw [getitemInPython_of_ne hT.not_modules]
  refine wpAny_bind (wpAny_specialOf hT hl ?_)
  have fin : wpAny (model prog w) A (subscripted slice false o i) (fun r s₃ => wpAny (model prog w) A (letTemporaryGo value o r >>= fun _ => pure r) Q E s₃) E s₂ := by
    rw [hs o i]
    exact wpAny_operating (wpAny_mono h₂ (fun r s₃ h₃ => wpAny_bind (wpAny_letTemporaryGo (wpAny_pure h₃))) fun _ _ x => x)
  first
    | exact wpAny_pure (wpAny_bind fin)
    | exact wpAny_bind (wpAny_pure (wpAny_bind fin))
    | exact wpAny_bind fin
theorem dict_typeIs {X : Cx} {pins : List (Addr × Obj)} {σ : St} {H : Hp} {s : Shared} {a : Addr} {y : V} {o : Option V} (I : Inv X pins σ H s) (g : DGet H a y o) : s.TypeIs (.ref a) "dict" := by
  rcases g with ⟨kvs, k, e, _, _⟩ | ⟨kvs, k, b, e, _, _, _⟩
  · obtain ⟨_, _, vs, _, dd⟩ := dk_rd I.hok e
    exact dd.typeIs
  · obtain ⟨_, _, xs, _, dd⟩ := dt_rd I.hok e
    exact dd.typeIs
def tDGet (td ty : TE) : TE := fun σ H Q => td σ H fun x H1 => ty σ H1 fun y H2 => ∃ a v, x = .ref a ∧ DGet H2 a y (some v) ∧ Q v H2
def tDNotIn (ty td : TE) : TE := fun σ H Q => ty σ H fun y H1 => td σ H1 fun x H2 => ∃ a o, x = .ref a ∧ DGet H2 a y o ∧ Q (.bl (!o.isSome)) H2
def sDPut (td ty tv : TE) : TS := fun D σ H => tv σ H fun v H1 => td σ H1 fun x H2 => ty σ H2 fun y H3 => ∃ a H4, x = .ref a ∧ DPut H3 a y v H4 ∧ D.nx σ H4
section
variable {X : Cx} {o i e value : Expr} {pos pos' tpos : Pos} {td ty tv : TE}
theorem pe_dget (hu : X.A.units + 1 < cLine) (ho : PE X o td) (hi : PE X i ty) (hs : NoSl i) : PE X (.Subscript o i pos) (tDGet td ty) := by
  intro pins s σ H Q I h
  refine subD_of PySem.F.slot_dict_getitem.lookup hs (thn (ho pins s σ H _ I h) fun u s1 ⟨x, H1, I1, rx, q1⟩ => thn (hi pins s1 σ H1 _ I1 q1) fun iv s2 ⟨y, H2, I2, ry, a, v, ex, g, q2⟩ => ?_)
  subst ex
  obtain rfl : u = Value.ref a := rx
  exact ⟨dict_typeIs I2 g, d_getItem hu I2 g ry fun w' s3 I3 rw' => ⟨v, H2, I3, rw', q2⟩⟩
theorem pc_dnotin (hu : X.A.units + 1 < cLine) (hi : PE X i ty) (ho : PE X o td) : PC X .NotIn i o (tDNotIn ty td) := by
  intro pins s σ H Q I h
  refine thn (hi pins s σ H _ I h) fun iv s1 ⟨y, H1, I1, ry, q1⟩ => thn (ho pins s1 σ H1 _ I1 q1) fun u s2 ⟨x, H2, I2, rx, a, ov, ex, g, q2⟩ => ?_
  subst ex
  obtain rfl : u = Value.ref a := rx
  exact d_notIn hu I2 g ry fun s3 I3 => ⟨.bl (!ov.isSome), H2, I3, rfl, q2⟩
theorem ps_dput (hu : X.A.units + 1 < cLine) (ho : PE X o td) (hi : PE X i ty) (hv : PE X value tv) (hs : swapsWith value (some (.Subscript o i pos')) pos.line X.env = pure false) :
    PS X (.Assign [.Subscript o i pos'] value pos) (sDPut td ty tv) := by
  intro pins s σ H D I h
  refine wpAny_Assign_Subscript (thn (hv pins s σ H _ I h) fun r s1 ⟨v, H1, I1, rv, q1⟩ => thn (ho pins s1 σ H1 _ I1 q1) fun u s2 ⟨x, H2, I2, rx, q2⟩ => thn (hi pins s2 σ H2 _ I2 q2) fun iv s3 ⟨y, H3, I3, ry, a, H4, ex, g, q3⟩ => ?_) hs
  subst ex
  obtain rfl : u = Value.ref a := rx
  exact d_setItem hu I3 g ry rv fun s4 I4 => ⟨σ, H4, I4, q3⟩
end
theorem dk_empty {P : Program} {w : World} {H : Hp} (h : Heap) (hb : sysModules < h.objs.size) : ObjOk P w H (h.push { cls := .type "dict", data := .dict #[] }) h.objs.size (.dK []) :=
  ⟨Nat.zero_le _, beq_eq_false_iff_ne.mpr (Ne.symm (Nat.ne_of_lt hb)), [], .nil, Heap.DictOf.new h⟩
def tDNewK : TE := fun _ H Q => ∀ p, H p = none → Q (.ref p) (upd H p (.dK []))
section
variable {X : Cx} {pos : Pos}
theorem pe_dnewK : PE X (.Dict [] [] pos) tDNewK := fun pins s σ H Q I h =>
  wpAny_Dict_empty ⟨.ref s.heap.objs.size, _, I.laid (a := s.heap.objs.size) (o := .dK []) (t' := s.toks) (fun _ _ q => Heap.get?_push_of_some _ q) (Nat.le_refl _) (dk_empty s.heap I.big), rfl, h _ (I.hok.fresh (Nat.le_refl _))⟩
end
def tPairs : List (TE × TE) → St → Hp → (List (V × V) → Hp → Prop) → Prop
  | [], _, H, Q => Q [] H
  | (tk, tv) :: r, σ, H, Q => tk σ H fun x H1 => tv σ H1 fun y H2 => tPairs r σ H2 fun ps H3 => Q ((x, y) :: ps) H3
abbrev VV : List (V × V) → List (Value × Value) → Prop := Paired fun p q => RelV p.1 q.1 ∧ RelV p.2 q.2
def PPs (X : Cx) (pos : Pos) (keys : List (Option Expr)) (values : List Expr) (trs : List (TE × TE)) : Prop :=
  ∀ (pins : List (Addr × Obj)) (s : Shared) (σ : St) (H : Hp) (Q : List (V × V) → Hp → Prop), Inv X pins σ H s → tPairs trs σ H Q →
    wpAny (model X.prog X.w) X.A (evalPairs (pairTrees keys values X.env pos)) (fun vs s' => ∃ ps H', Inv X pins σ H' s' ∧ VV ps vs ∧ Q ps H') X.xe s
theorem pps_nil {X : Cx} {pos : Pos} : PPs X pos [] [] [] := fun pins s σ H Q I h => pairTrees_nil_walk ⟨[], H, I, .nil, h⟩
theorem pps_cons {X : Cx} {pos : Pos} {k v : Expr} {ks : List (Option Expr)} {vs : List Expr} {tk tv : TE} {trs : List (TE × TE)} (hk : PE X k tk) (hv : PE X v tv) (hr : PPs X pos ks vs trs) :
    PPs X pos (some k :: ks) (v :: vs) ((tk, tv) :: trs) := fun pins s σ H Q I h =>
  pairTrees_cons_walk (thn (hk pins s σ H _ I h) fun u s1 ⟨x, H1, I1, rx, q1⟩ => thn (hv pins s1 σ H1 _ I1 q1) fun w2 s2 ⟨y, H2, I2, ry, q2⟩ =>
    thn (hr pins s2 σ H2 _ I2 q2) fun ws s3 ⟨ps, H3, I3, rel, q3⟩ => ⟨(x, y) :: ps, H3, I3, .cons ⟨rx, ry⟩ rel, q3⟩)
def mergeK (kvs more : List (Key × V)) : List (Key × V) := more.foldl (fun acc kv => putK acc kv.1 kv.2) kvs
theorem KV.merge : ∀ {more : List (Key × V)} {rs : List (Key × Value)} {kvs : List (Key × V)} {vs : List (Key × Value)}, KV more rs → KV kvs vs → KV (mergeK kvs more) (merged vs rs) := by
  intro more rs kvs vs r
  unfold KV at r
  induction r generalizing kvs vs with
  | nil => intro q; exact q
  | @cons p q ps qs h t ih =>
    intro r0
    have e : KV (putK kvs p.1 p.2) (stored vs q.1 q.2) := by
      have := r0.put p.1 h.2
      rw [← h.1]; exact this
    exact ih e
theorem length_mergeK : ∀ (more kvs : List (Key × V)), (mergeK kvs more).length ≤ kvs.length + more.length
  | [], kvs => by show kvs.length ≤ kvs.length + 0; omega
  | p :: r, kvs => by
    have h1 := length_mergeK r (putK kvs p.1 p.2)
    have h2 := length_putK kvs p.1 p.2
    show (mergeK (putK kvs p.1 p.2) r).length ≤ _
    rw [List.length_cons]; omega
theorem carries_of {P : Program} {w : World} : ∀ {kvs : List (Key × V)} {ws : List (Value × Value)}, VV (kvs.map fun kv => (kV kv.1, kv.2)) ws → ∃ rs, Carries (mixKind P w) ws rs ∧ KV kvs rs
  | [], _, r => by rw [List.map_nil] at r; cases r; exact ⟨[], True.intro, .nil⟩
  | p :: kvs, _, r => by
    rw [List.map_cons] at r
    cases r with
    | @cons a b as bs h t =>
      obtain ⟨rs, c, q⟩ := carries_of (P := P) (w := w) t
      obtain ⟨b1, b2⟩ := b
      exact ⟨(p.1, b2) :: rs, ⟨kV_is h.1, rfl, c⟩, .cons ⟨rfl, h.2⟩ q⟩
def tDisp (trs : List (TE × TE)) : TE := fun σ H Q => ∀ p, H p = none → tPairs trs σ (upd H p (.dK [])) fun ps H2 => H2 p = some (.dK []) ∧ ∃ kvs : List (Key × V), ps = kvs.map (fun kv => (kV kv.1, kv.2)) ∧ kvs.length ≤ 15 ∧ Q (.ref p) (upd H2 p (.dK (mergeK [] kvs)))
theorem pe_disp {X : Cx} {pos : Pos} {keys : List (Option Expr)} {values : List Expr} {trs : List (TE × TE)} (h : PPs X pos keys values trs) (hall : keys.all (·.isSome) = true) (hl : keys.length = values.length) (h0 : keys ≠ [])
    (h15 : keys.length ≤ 15) : PE X (.Dict keys values pos) (tDisp trs) := by
  intro pins s σ H Q I q
  have hn := I.hok.fresh (Nat.le_refl s.heap.objs.size)
  have I1 := I.laid (a := s.heap.objs.size) (o := .dK []) (h' := s.heap.push { cls := .type "dict", data := .dict #[] }) (t' := s.toks) (fun _ _ q => Heap.get?_push_of_some _ q) (Nat.le_refl _) (dk_empty s.heap I.big)
  refine wpAny_Dict_walk (knd := mixKind X.prog X.w) hall hl h0 h15 (thn (h pins _ σ _ _ I1 (q _ hn)) fun ws s2 ⟨ps, H2, I2, rel, e, kvs, ep, lk, q2⟩ => ?_)
  subst ep
  obtain ⟨rs, c, rk⟩ := carries_of (P := X.prog) (w := X.w) rel
  obtain ⟨z, hd, vs0, r0, dd⟩ := dk_of I2.hok e
  cases r0
  refine ⟨rs, c, dd, fun h' dd' hs => ⟨.ref s.heap.objs.size, _, ?_, rfl, q2⟩⟩
  have hz : (mergeK [] kvs).length ≤ sizeLine := by
    have h1 := length_mergeK kvs []
    rw [List.length_nil] at h1
    rw [sizeLine_eq]; omega
  have he : ∃ q, h'.get? s.heap.objs.size = some q := let ⟨q, _, _, hq, _⟩ := dd'; ⟨q, hq⟩
  exact d_write I2 (by rw [e]; exact True.intro) hs he (dk_new hz hd (rk.merge .nil) dd')
structure M2 (X : Cx) (o : Expr) (m : Str) (apos : Pos) (e f : Expr) (cpos : Pos) : Prop where
  base : attributeBase o m X.env (eval o X.env) = eval o X.env
  few : ((backTo cpos (starEach [e, f] X.env)).all (fun x => !x.1) && (backToKw cpos (keywordEach [] X.env)).all (fun x => x.1.isSome)
    && decide (([e, f] : List Expr).length + ([] : List Keyword).length + (if ([] : List Keyword).isEmpty then 0 else 1) < 30)) = true
  line : (apos.endLine == cpos.line) = true
  trees : backTo cpos (starEach [e, f] X.env) = [(false, eval e X.env), (false, eval f X.env)]
def IsD (H : Hp) (a : Addr) : Prop := (∃ kvs, Rd H a (.dK kvs)) ∨ ∃ kvs, Rd H a (.dT kvs)
theorem isD_at {X : Cx} {pins : List (Addr × Obj)} {σ : St} {H : Hp} {s : Shared} {a : Addr} (I : Inv X pins σ H s) (d : IsD H a) :
    s.TypeIs (.ref a) "dict" ∧ (∀ b, Value.ref a = .ref b → ∃ ob, s.heap.get? b = some ob ∧ ob.dict = none) ∧ (a == sysModules) = false := by
  rcases d with ⟨kvs, e⟩ | ⟨kvs, e⟩
  · obtain ⟨_, hd, vs, _, dd⟩ := dk_rd I.hok e
    refine ⟨dd.typeIs, fun b q => ?_, hd⟩
    cases q
    obtain ⟨ob, _, _, h1, h2, _⟩ := dd
    exact ⟨ob, h1, h2.2.1⟩
  · obtain ⟨_, hd, xs, _, dd⟩ := dt_rd I.hok e
    refine ⟨dd.typeIs, fun b q => ?_, hd⟩
    cases q
    obtain ⟨ob, _, _, h1, h2, _⟩ := dd
    exact ⟨ob, h1, h2.2.1⟩
section
variable {X : Cx} {pins : List (Addr × Obj)} {σ : St} {H : Hp} {s : Shared} {a : Addr} {y d : V} {u r : Value} {o : Option V} {A : Around} {E : Value → Shared → Prop}
theorem d_get2 {Q : Value → Shared → Prop} (hu : A.units + 1 < cLine) (I : Inv X pins σ H s) (g : DGet H a y o) (ry : RelV y u) (rd : RelV d r) (h : ∀ w' s', Inv X pins σ H s' → RelV (o.getD d) w' → Q w' s') :
    wpAny (model X.prog X.w) A (call (.builtin "dict.get") [.ref a, u, r]) Q E s := by
  rcases g with ⟨kvs, k, e, ey, l⟩ | ⟨kvs, k, b, e, ey, eb, l⟩
  · subst ey
    obtain ⟨z, hd, vs, rel, dd⟩ := dk_rd I.hok e
    refine call_meetsIn PySem.F.slot_dict_get dd.typeIs PySem.F.entry_dict_get (PySem.F.args_dict_get_3 _ _ _) (meets_dict_get_default (mixKind X.prog X.w) a (kV_is ry) hd r) ⟨_, dd.mapOf, h _ _ (I.tok _) ?_⟩
    rw [l]
    exact (rel.val k).getD rd
  · subst ey
    cases (show u = Value.ref b from ry)
    obtain ⟨z, hd, xs, rel, dd⟩ := dt_rd I.hok e
    refine call_meetsIn PySem.F.slot_dict_get dd.typeIs PySem.F.entry_dict_get (PySem.F.args_dict_get_3 _ _ _) (meetsH_dict_get_default (tupleKind (mixKind X.prog X.w)) a b hd r) ⟨tupleKind_room_in1 hu, k, xs, key_of I.hok eb, dd, h _ _ (I.tok _) ?_⟩
    rw [l]
    exact (rel.val k).getD rd
end
def tDGet2 (td ty tx : TE) : TE := fun σ H Q => td σ H fun x H1 => ∃ a, x = .ref a ∧ IsD H1 a ∧ ty σ H1 fun y H2 => tx σ H2 fun z H3 => ∃ o, DGet H3 a y o ∧ Q (o.getD z) H3
section
variable {X : Cx} {o e f : Expr} {apos cpos : Pos} {td ty tx : TE}
theorem pe_dget2 (hu : X.A.units + 1 < cLine) (ho : PE X o td) (he : PE X e ty) (hf : PE X f tx) (m : M2 X o "get" apos e f cpos) : PE X (.Call (.Attribute o "get" apos) [e, f] [] cpos) (tDGet2 td ty tx) := by
  intro pins s σ H Q I h
  refine wpAny_Call_method m.base m.few m.line PySem.F.plainAttrs_dict PySem.F.slot_dict_get PySem.F.type_dict_get (thn (ho pins s σ H _ I h) fun u s1 ⟨x, H1, I1, rx, a, ex, d, q1⟩ => ?_)
  subst ex
  obtain rfl : u = Value.ref a := rx
  obtain ⟨t1, t2, _⟩ := isD_at I1 d
  refine ⟨t1, t2, ?_⟩
  rw [m.trees]
  refine Calls.callWith_builtin rfl (Calls.evalArgs_plain (Calls.spliced_cons (thn (he pins s1 σ H1 _ I1 q1) fun iv s2 ⟨y, H2, I2, ry, q2⟩ =>
    Calls.spliced_cons (thn (hf pins s2 σ H2 _ I2 q2) fun fv s3 ⟨z, H3, I3, rz, ov, g, q3⟩ => Calls.spliced_nil ?_))))
  exact d_get2 hu I3 g ry rz fun w' s4 I4 rw' => ⟨_, H3, I4, rw', q3⟩
end
section
variable {X : Cx} {pins : List (Addr × Obj)} {σ : St} {H : Hp} {s : Shared} {a : Addr} {kvs : List (Key × V)} {A : Around} {E : Value → Shared → Prop}
end
section
variable {X : Cx} {pins : List (Addr × Obj)} {σ : St} {H : Hp} {s : Shared} {a : Addr} {y : V} {u : Value} {A : Around} {E : Value → Shared → Prop}
end
end L2
namespace Att
open PySem PySem.W PySem.Calls PyProof.Rows
section
variable {prog : Program} {w : World} {A : Around} {E : Value → Shared → Prop} {s : Shared} {K : Frag}
end
end Att
namespace L2
open PySem PySem.Spec PyProof.Rows
end L2
namespace L2
open PySem PySem.Spec PyProof.Rows
end L2
namespace L2
open PySem PySem.Spec PyProof.Rows
section
variable {P : Program} {w : World} {K : PySem.W.Frag} {mg : Str → Option Value} {base : Heap}
end
section
variable {X : Cx}
end
section
variable {κ : Type} [DecidableEq κ]
end
end L2
namespace L2
open PySem PySem.Spec PyProof.Rows
section
variable {X : Cx} {C : Addr}
end
section
variable {X : Cx} {CX : CXT} {k : Nat} {ι : Type} {C f : ι → Addr} {fd : ι → FuncData} {ps : List Str} {sp : ι → Sp} {E : XK} {m : Str} {pos apos : Pos} {e o : Expr} {es : List Expr} {ta : TE} {t : TA}
end
end L2
namespace L2
open PySem PySem.Spec PyProof.Rows
def clsBody (s : Stmt) : List Stmt := match s with
  | .ClassDef _ _ _ b _ _ _ _ _ _ _ => b
  | _ => []
structure Mv (K : PySem.W.Frag) (x qual : Str) (st : Stmt) (ps : List Str) where
  f : Addr
  fd : FuncData
  F : Fun K x qual st f fd
  b : Binds K fd ps []
end L2
namespace L2
open PySem PySem.Spec PyProof.Rows
section
variable {X : Cx} {body suite : List Stmt} {b₀ : Stmt} {t : TSx} {ts : Addr → Obj → TS} {c : Str} {c₀ : Value} {np hpos pos : Pos}
def tTryN (K : PySem.W.Frag) (c₀ : Value) (t : TSx) (ts : Addr → Obj → TS) : TS := fun D σ H => t D (fun C σ' H' => PySem.W.exmOne K C c₀ = some true ∧ ∀ (e : Addr) (oe : Obj), oe.cls = C → H' e = none → ts e oe { nx := D.nx, rt := D.rt, bk := D.bk, ct := D.ct } σ' H') σ H
theorem ps_tryN (hst : X.stack = X.env :: X.outer) (hfr : X.env.frame = some X.env.locals) (hg : Gl X c) (hm : X.mg c = some c₀)
    (hb : PXs X body t) (hs : ∀ e oe, PSs (X.caught e oe) (b₀ :: suite) (ts e oe)) (hdb : (c == ("__debug__" : Str)) = false := by decide) :
    PS X (.Try body [.ExceptHandler (some (.Name c np)) none (b₀ :: suite) hpos] [] [] pos) (tTryN X.K c₀ t ts) := by
  intro pins s σ H D I h
  refine wpAny_Try_except (wpAny_mono (hb pins s σ H D _ I h) (fun f s1 q => ?_) fun x s1 q => ?_)
  · cases f with
    | next => exact wpAny_execs_nil q
    | ret v => exact q
    | brk => exact q
    | cont => exact q
  obtain ⟨e, C, σ', H0, s0, H', rfl, I0, F, hx, q⟩ := q
  obtain ⟨B, a0, fl, a⟩ := F.fly
  rw [hst] at fl
  have frm : X.A.frames = some (X.env :: X.outer) := by rw [← hst]; exact I0.ok.frames
  refine wpAny_looks_onW (base := B) frm hfr fl fun h4 hd4 up4 => ?_
  have a4 : Aft X.prog X.w X.stack H0 H' s0 B h4 := a.next hd4.1 (by rw [hst]; exact fl.2.2.1) up4
  refine wpAny_landsW hd4 fun h5 fl5 up5 => ?_
  have a5 : Aft X.prog X.w X.stack H0 H' s0 B h5 := a4.next fl5.1 (by rw [hst]; exact hd4.2.2.1) up5
  obtain ⟨oe5, ws5, he5, hc5, hd5, _⟩ := fl5.first
  have J5 : Inv (X.caught e oe5) pins σ' H' { s1 with heap := h5 } := I0.caught (s' := { s1 with heap := h5 }) F.os F.bare a5.un a5.hok he5 F.new F.untr (fun v z => by rw [hd5] at z; cases z) hst
  refine wpAny_handleBy_cons (codeAny_handlers_test (ld_glob (X := X.caught e oe5) J5 hg hm ?_ hdb)) (by intro z; cases z)
  have LT : PySem.W.Looks (model X.prog X.w) h5 (typeOf (.ref e)) (.ref C) := hc5 ▸ (PySem.W.Looks.ld he5).andThen .now
  refine (PySem.W.exm_one (K := X.K) J5.kIn LT hx).here ?_
  refine codeAny_handlers_suite (lands_againW fl5 fun h6 fl6 up6 => ?_)
  have a6 : Aft X.prog X.w X.stack H0 H' s0 B h6 := a5.next fl6.1 (by rw [hst]; exact fl5.2.2.1) up6
  obtain ⟨oe, ws, he6, hc6, hd6, _⟩ := fl6.first
  have J6 : Inv (X.caught e oe) pins σ' H' { s1 with heap := h6 } := I0.caught (s' := { s1 with heap := h6 }) F.os F.bare a6.un a6.hok he6 F.new F.untr (fun v z => by rw [hd6] at z; cases z) hst
  refine wpAny_mono (hs e oe pins _ σ' H' _ J6 (q e oe hc6 F.untr)) (fun f s8 z => ?_) fun _ _ z => False.elim z
  cases f with
  | next =>
    obtain ⟨σ2, H2, I2, z⟩ := z
    exact ⟨_, H2, Inv.uncaught I0.ok I2, z⟩
  | brk =>
    obtain ⟨σ2, H2, I2, z⟩ := z
    exact ⟨_, H2, Inv.uncaught I0.ok I2, z⟩
  | cont =>
    obtain ⟨σ2, H2, I2, z⟩ := z
    exact ⟨_, H2, Inv.uncaught I0.ok I2, z⟩
  | ret u =>
    obtain ⟨v, σ2, H2, I2, r, z⟩ := z
    exact ⟨v, _, H2, Inv.uncaught I0.ok I2, r, z⟩
end
end L2
namespace L2
open PySem PySem.Spec PySem.Calls PyProof.Rows
end L2
namespace L2
open PySem PySem.Spec PyProof.Rows
section
variable {X : Cx} {k : Nat} {f C : Addr} {fd : FuncData} {ps : List Str} {sp : Sp} {m : Str} {pos apos : Pos} {e o : Expr} {es : List Expr} {ta : TE} {t : TA}
end
section
variable {X : Cx} {o : Expr} {to : TE} {p apos cpos pos : Pos}
end
end L2
namespace L2
open PySem PySem.W PyProof.Rows
section
variable {n : Nat} {rk : Nat → Nat} {cmp : Nat → Nat → (Bool → Shared → Prop) → Shared → Prop} {s : Shared}
def ByRank (n : Nat) (rk : Nat → Nat) (cmp : Nat → Nat → (Bool → Shared → Prop) → Shared → Prop) (s : Shared) : Prop := ∀ (i j : Nat) (C : Bool → Shared → Prop), i < n → j < n → i ≠ j → C (decide (rk i < rk j)) s → cmp i j C s
def RkInj (n : Nat) (rk : Nat → Nat) : Prop := ∀ i j, i < n → j < n → rk i = rk j → i = j
def gk (rk : Nat → Nat) (p : Array Nat) (k : Nat) : Nat := rk (p.getD k 0)
def Pm (n : Nat) (p : Array Nat) : Prop := p.toList.Perm (List.range n)
def Srt (rk : Nat → Nat) (p : Array Nat) (m : Nat) : Prop := ∀ i j, i ≤ j → j < m → gk rk p i ≤ gk rk p j
def Dec (rk : Nat → Nat) (p : Array Nat) (m : Nat) : Prop := ∀ i j, i ≤ j → j < m → gk rk p j ≤ gk rk p i
theorem Pm.size {p : Array Nat} (h : Pm n p) : p.size = n := by
  have := h.length_eq
  rw [List.length_range, Array.length_toList] at this
  exact this
theorem getD_get {p : Array Nat} {k : Nat} (h : k < p.size) : p.getD k 0 = p[k] := by
  simp [Array.getD, h]
theorem Pm.lt {p : Array Nat} (h : Pm n p) {k : Nat} (hk : k < n) : p.getD k 0 < n := by
  have hs : k < p.size := by rw [h.size]; exact hk
  rw [getD_get hs]
  have : p[k] ∈ List.range n := h.mem_iff.mp (by simp)
  exact List.mem_range.mp this
theorem Pm.dif {p : Array Nat} (h : Pm n p) {i j : Nat} (h1 : i < n) (h2 : j < n) (d : i ≠ j) : p.getD i 0 ≠ p.getD j 0 := fun e1 => by
  have s1 : i < p.size := by rw [h.size]; exact h1
  have s2 : j < p.size := by rw [h.size]; exact h2
  rw [getD_get s1, getD_get s2] at e1
  have nd : p.toList.Nodup := h.nodup_iff.mpr List.nodup_range
  have pw := List.pairwise_iff_getElem.mp nd
  have t1 : i < p.toList.length := by rw [Array.length_toList]; exact s1
  have t2 : j < p.toList.length := by rw [Array.length_toList]; exact s2
  have e2 : p.toList[i] = p.toList[j] := by rw [Array.getElem_toList, Array.getElem_toList]; exact e1
  rcases Nat.lt_trichotomy i j with c | c | c
  · exact pw i j t1 t2 c e2
  · exact d c
  · exact pw j i t2 t1 c e2.symm
theorem Pm.ne {p : Array Nat} (h : Pm n p) (hi : RkInj n rk) {i j : Nat} (h1 : i < n) (h2 : j < n) (e : gk rk p i = gk rk p j) : i = j := by
  by_cases c : i = j
  · exact c
  · exact absurd (hi _ _ (h.lt h1) (h.lt h2) e) (h.dif h1 h2 c)
theorem Pm.of {p q : Array Nat} (h : Pm n p) (e : q.Perm p) : Pm n q := (Array.perm_iff_toList_perm.mp e).trans h
theorem gk_congr {p q : Array Nat} {i j : Nat} (e : p[i]? = q[j]?) : gk rk p i = gk rk q j := by
  unfold gk
  congr 1
  rw [Array.getD_eq_getD_getElem?, Array.getD_eq_getD_getElem?, e]
theorem gk_mirror {p : Array Nat} {m : Nat} (hm : m ≤ p.size) (k : Nat) : gk rk (kas_rev p 0 m) k = if k < m then gk rk p (m - 1 - k) else gk rk p k := by
  have e := getElem?_mirror_all (i := 0) hm k
  unfold kas_rev
  by_cases h : k < m
  · rw [if_pos ⟨Nat.zero_le _, h⟩] at e
    rw [if_pos h]
    exact gk_congr (by rw [e]; congr 1; omega)
  · rw [if_neg (by omega)] at e
    rw [if_neg h]
    exact gk_congr e
theorem gk_bubble {p : Array Nat} {k d : Nat} (hk : k < p.size) (hd : d ≤ k) (j : Nat) : gk rk (bubble p k d) j = if j = k - d then gk rk p k else if k - d < j ∧ j ≤ k then gk rk p (j - 1) else gk rk p j := by
  have e := getElem?_bubble hk d hd j
  by_cases h : j = k - d
  · rw [if_pos h] at e ⊢
    exact gk_congr e
  · rw [if_neg h] at e ⊢
    by_cases h2 : k - d < j ∧ j ≤ k
    · rw [if_pos h2] at e ⊢
      exact gk_congr e
    · rw [if_neg h2] at e ⊢
      exact gk_congr e
theorem asc_wp (B : ByRank n rk cmp s) {p : Array Nat} (hp : Pm n p) {Q : Nat → Shared → Prop} : ∀ (f m : Nat), 1 ≤ m → m + f ≤ n → Srt rk p m → (∀ t, m ≤ t → t ≤ m + f → Srt rk p t → (t = m + f ∨ gk rk p t < gk rk p (t - 1)) → Q t s) → (kas_asc p f m).kasWp cmp Q s
  | 0, m, _, _, hs, h => h m (Nat.le_refl _) (Nat.le_refl _) hs (.inl rfl)
  | f + 1, m, h1, hn, hs, h => by
    refine B _ _ _ (hp.lt (by omega)) (hp.lt (by omega)) (hp.dif (by omega) (by omega) (by omega)) ?_
    by_cases c : rk (p.getD m 0) < rk (p.getD (m - 1) 0)
    · rw [decide_eq_true c]
      exact h m (Nat.le_refl _) (by omega) hs (.inr c)
    · rw [decide_eq_false c]
      refine asc_wp B hp f (m + 1) (by omega) (by omega) (fun i j hij hj => ?_) fun t a b c d => h t (by omega) (by omega) c (by rcases d with d | d; exact .inl (by omega); exact .inr d)
      by_cases hj' : j < m
      · exact hs i j hij hj'
      · have ej : j = m := by omega
        subst ej
        by_cases hi : i = j
        · subst hi; exact Nat.le_refl _
        · exact Nat.le_trans (hs i (j - 1) (by omega) (by omega)) (Nat.le_of_not_lt c)
theorem desc_wp (B : ByRank n rk cmp s) (hi : RkInj n rk) {p : Array Nat} (hp : Pm n p) {Q : Array Nat × Nat × Nat → Shared → Prop} : ∀ (f m : Nat), 1 ≤ m → m + f ≤ n → Dec rk p m → (∀ t, m ≤ t → t ≤ m + f → Dec rk p t → Q (p, t, 0) s) → (kas_desc f p m 0).kasWp cmp Q s
  | 0, m, _, _, hs, h => h m (Nat.le_refl _) (Nat.le_refl _) hs
  | f + 1, m, h1, hn, hs, h => by
    refine B _ _ _ (hp.lt (by omega)) (hp.lt (by omega)) (hp.dif (by omega) (by omega) (by omega)) ?_
    by_cases c : rk (p.getD m 0) < rk (p.getD (m - 1) 0)
    · rw [decide_eq_true c]
      refine desc_wp B hi hp f (m + 1) (by omega) (by omega) (fun i j hij hj => ?_) fun t a b c => h t (by omega) (by omega) c
      by_cases hj' : j < m
      · exact hs i j hij hj'
      · have ej : j = m := by omega
        subst ej
        by_cases hi : i = j
        · subst hi; exact Nat.le_refl _
        · exact Nat.le_trans (Nat.le_of_lt c) (hs i (j - 1) (by omega) (by omega))
    · rw [decide_eq_false c]
      refine B _ _ _ (hp.lt (by omega)) (hp.lt (by omega)) (hp.dif (by omega) (by omega) (by omega)) ?_
      have ne : gk rk p m ≠ gk rk p (m - 1) := fun e => by
        have := hp.ne hi (by omega) (by omega) e
        omega
      have : rk (p.getD (m - 1) 0) < rk (p.getD m 0) := Nat.lt_of_le_of_ne (Nat.le_of_not_lt c) (fun e => ne e.symm)
      rw [decide_eq_true this]
      exact h m (Nat.le_refl _) (by omega) hs
theorem tail3_wp (B : ByRank n rk cmp s) {p : Array Nat} (hp : Pm n p) {Q : Nat × Array Nat → Shared → Prop} {m : Nat} (h1 : 1 ≤ m) (hm : m ≤ n) (hs : Dec rk p m) (h : ∀ t q, Pm n q → 1 ≤ t → t ≤ n → Srt rk q t → Q (t, q) s) : (kas_tail3 m n p).kasWp cmp Q s := by
  unfold kas_tail3
  rw [KasT.kasWp_bind]
  have hq : Pm n (kas_rev p 0 m) := hp.of (mirror_perm _ _ _ _)
  refine asc_wp B hq (n - m) m h1 (by omega) (fun i j hij hj => ?_) fun t a b c _ => h t _ hq (by omega) (by omega) c
  have z : m ≤ p.size := by rw [hp.size]; exact hm
  rw [gk_mirror z, gk_mirror z, if_pos (by omega), if_pos hj]
  exact hs _ _ (by omega) (by omega)
theorem descPart_wp (B : ByRank n rk cmp s) (hi : RkInj n rk) {p : Array Nat} (hp : Pm n p) {Q : Nat × Array Nat → Shared → Prop} {m : Nat} (hm : m + 1 ≤ n) (hs : Dec rk p (m + 1)) (h : ∀ t q, Pm n q → 1 ≤ t → t ≤ n → Srt rk q t → Q (t, q) s) : (kas_descPart m n p).kasWp cmp Q s := by
  unfold kas_descPart
  rw [KasT.kasWp_bind]
  refine desc_wp B hi hp (n - (m + 1)) (m + 1) (by omega) (by omega) hs fun t a b c => ?_
  show (kas_tail3 t n p).kasWp cmp Q s
  exact tail3_wp B hp (by omega) (by omega) c h
theorem count_wp (B : ByRank n rk cmp s) (hi : RkInj n rk) {p : Array Nat} (hp : Pm n p) {Q : Nat × Array Nat → Shared → Prop} (h1 : 1 ≤ n) (h : ∀ t q, Pm n q → 1 ≤ t → t ≤ n → Srt rk q t → Q (t, q) s) : (kas_count n p).kasWp cmp Q s := by
  unfold kas_count
  rw [KasT.kasWp_bind]
  refine asc_wp B hp (n - 1) 1 (Nat.le_refl _) (by omega) (fun i j hij hj => ?_) fun t a b hs hor => ?_
  · have : i = j := by omega
    subst this
    exact Nat.le_refl _
  by_cases e : t = n
  · subst e
    rw [if_pos (by simp)]
    exact h t p hp a (Nat.le_refl _) hs
  · rw [if_neg (by simpa using e)]
    have lt : gk rk p t < gk rk p (t - 1) := hor.resolve_left (by omega)
    by_cases g : t > 1
    · rw [if_pos g]
      refine B _ _ _ (hp.lt (by omega)) (hp.lt (by omega)) (hp.dif (by omega) (by omega) (by omega)) ?_
      have ne : gk rk p 0 ≠ gk rk p (t - 1) := fun z => by
        have := hp.ne hi (by omega) (by omega) z
        omega
      have : rk (p.getD 0 0) < rk (p.getD (t - 1) 0) := Nat.lt_of_le_of_ne (hs 0 (t - 1) (by omega) (by omega)) ne
      rw [decide_eq_true this]
      exact h t p hp (by omega) (by omega) hs
    · rw [if_neg g]
      have : t = 1 := by omega
      subst this
      refine descPart_wp B hi hp (by omega) (fun i j hij hj => ?_) h
      by_cases hij' : i = j
      · subst hij'; exact Nat.le_refl _
      · have : i = 0 := by omega
        have : j = 1 := by omega
        subst i j
        exact Nat.le_of_lt lt
theorem place_wp (B : ByRank n rk cmp s) {p : Array Nat} (hp : Pm n p) {k : Nat} (hk : k < n) {Q : Nat → Shared → Prop} (hs : Srt rk p k) : ∀ (f l r : Nat), l ≤ r → r ≤ k → r - l ≤ f → (∀ i, i < l → gk rk p i ≤ gk rk p k) → (∀ i, r ≤ i → i < k → gk rk p k < gk rk p i) → (∀ t, t ≤ k → (∀ i, i < t → gk rk p i ≤ gk rk p k) → (∀ i, t ≤ i → i < k → gk rk p k < gk rk p i) → Q t s) → (kas_place p k f l r).kasWp cmp Q s
  | 0, l, r, h1, h2, h3, a, b, h => h l (by omega) a fun i x y => b i (by omega) y
  | f + 1, l, r, h1, h2, h3, a, b, h => by
    unfold kas_place
    by_cases c : l ≥ r
    · rw [if_pos c]
      exact h l (by omega) a fun i x y => b i (by omega) y
    · rw [if_neg c]
      refine B _ _ _ (hp.lt hk) (hp.lt (by omega)) (hp.dif hk (by omega) (by omega)) ?_
      by_cases d : rk (p.getD k 0) < rk (p.getD ((l + r) / 2) 0)
      · rw [decide_eq_true d]
        refine place_wp B hp hk hs f l ((l + r) / 2) (by omega) (by omega) (by omega) a (fun i x y => ?_) h
        exact Nat.lt_of_lt_of_le d (hs _ i x y)
      · rw [decide_eq_false d]
        refine place_wp B hp hk hs f ((l + r) / 2 + 1) r (by omega) (by omega) (by omega) (fun i x => ?_) b h
        exact Nat.le_trans (hs i ((l + r) / 2) (by omega) (by omega)) (Nat.le_of_not_lt d)
theorem bin_wp (B : ByRank n rk cmp s) {Q : Array Nat → Shared → Prop} : ∀ (f : Nat) (p : Array Nat) (k : Nat), Pm n p → k + f = n → Srt rk p k → (∀ q, Pm n q → Srt rk q n → Q q s) → (kas_bin f p k).kasWp cmp Q s
  | 0, p, k, hp, e, hs, h => h p hp (by rw [← e]; exact hs)
  | f + 1, p, k, hp, e, hs, h => by
    unfold kas_bin
    rw [KasT.kasWp_bind]
    refine place_wp B hp (by omega) hs k 0 k (Nat.zero_le _) (Nat.le_refl _) (by omega) (fun i x => by omega) (fun i x y => by omega) fun t ht lo hi => ?_
    refine bin_wp B f _ (k + 1) (hp.of (bubble_perm _ _ _)) (by omega) (fun i j hij hj => ?_) h
    have z : k < p.size := by rw [hp.size]; omega
    rw [gk_bubble z (by omega), gk_bubble z (by omega)]
    have ek : k - (k - t) = t := by omega
    rw [ek]
    by_cases c1 : i = t
    · rw [if_pos c1]
      by_cases c2 : j = t
      · rw [if_pos c2]; exact Nat.le_refl _
      · rw [if_neg c2, if_pos (by omega)]
        exact Nat.le_of_lt (hi _ (by omega) (by omega))
    · rw [if_neg c1]
      by_cases c3 : t < i ∧ i ≤ k
      · rw [if_pos c3, if_neg (by omega), if_pos (by omega)]
        exact hs _ _ (by omega) (by omega)
      · rw [if_neg c3]
        have hit : i < t := by omega
        by_cases c2 : j = t
        · rw [if_pos c2]; exact lo i hit
        · rw [if_neg c2]
          by_cases c4 : t < j ∧ j ≤ k
          · rw [if_pos c4]; exact hs _ _ (by omega) (by omega)
          · rw [if_neg c4]; exact hs _ _ hij (by omega)
theorem sort_wp (B : ByRank n rk cmp s) (hi : RkInj n rk) {Q : Array Nat → Shared → Prop} (h1 : 1 ≤ n) (h : ∀ q, Pm n q → Srt rk q n → Q q s) : (kas_sort n).kasWp cmp Q s := by
  unfold kas_sort
  rw [KasT.kasWp_bind]
  have h0 : Pm n (List.toArray (List.range n)) := by show List.Perm _ _; exact List.Perm.refl _
  refine count_wp B hi h0 h1 fun t q hq a b hs => ?_
  by_cases c : t < n
  · rw [if_pos c]
    have : max t 1 = t := by omega
    rw [this]
    exact bin_wp B (n - t) q t hq (by omega) hs h
  · rw [if_neg c]
    have : t = n := by omega
    subst this
    exact h q hq hs
end
end L2
namespace L2
open PySem PySem.W PyProof.Rows
section
variable {prog : Program} {w : World} {A : Around} {E : Value → Shared → Prop} {s : Shared}
def midHeap (h : Heap) (a : Addr) (vs : List Value) : Heap := ((h.update a (Obj.mapSeq fun _ => #[])).push (seqObj "tuple" vs.toArray 0)).push (seqObj "list" #[] 0)
theorem midHeap_old {h : Heap} {a b : Addr} {vs : List Value} (nb : b ≠ a) (lb : b < h.objs.size) : (midHeap h a vs).get? b = h.get? b := by
  unfold midHeap
  rw [Heap.get?_push_ne _ _ _ (by rw [size_push', Heap.size_update]; exact Nat.ne_of_lt (Nat.lt_succ_of_lt lb)),
    Heap.get?_push_ne _ _ _ (by rw [Heap.size_update]; exact Nat.ne_of_lt lb), Heap.get?_update_ne _ _ _ _ nb]
def outOf (vs : List Value) (q : Array Nat) : List Value := q.toList.map fun i => vs.getD i Value.none
theorem outOf_range (vs : List Value) : outOf vs (List.toArray (List.range vs.length)) = vs := by
  unfold outOf
  apply List.ext_getElem
  · simp
  · intro i h1 h2
    simp [h2]
theorem list_sort_rk {rk : Nat → Nat} {a : Addr} {vs : List Value} {n : Nat} {P : PySem.Fin → Shared → Prop} (atL : s.heap.get? a = some (seqObj "list" vs.toArray n)) (h64 : vs.length < 64) (hi : RkInj vs.length rk)
    (hk : 2 ≤ vs.length → wpAny (model prog w) A (keyKind' vs.toArray) (fun κ s' => s' = { s with heap := midHeap s.heap a vs } ∧ ByRank vs.length rk (kas_ask prog w A κ vs) s') (fun _ _ => False) { s with heap := midHeap s.heap a vs })
    (h : ∀ q, Pm vs.length q → Srt rk q vs.length → P (.done (.ret .none)) { s with heap := sortedHeap s.heap a vs (outOf vs q).toArray }) :
    wpAny (model prog w) A (Builtin.«list.sort» ⟨[.ref a], []⟩) P E s := by
  rw [list_sort_plain]
  have la : a < s.heap.objs.size := Heap.lt_size atL
  obtain ⟨ep1, atE⟩ : ∃ ep1, (s.heap.update a (Obj.mapSeq fun _ => (#[] : Array Value))).get? a = some (seqObj "list" #[] ep1) := ⟨_, get?_update_seq atL (fun _ => #[])⟩
  have atM : (midHeap s.heap a vs).get? a = some (seqObj "list" #[] ep1) := by
    unfold midHeap
    rw [Heap.get?_push_ne _ _ _ (by rw [size_push', Heap.size_update]; exact Nat.ne_of_lt (Nat.lt_succ_of_lt la)), Heap.get?_push_ne _ _ _ (by rw [Heap.size_update]; exact Nat.ne_of_lt la)]
    exact atE
  refine wpAny_bind (listItems_at atL rfl (wpAny_bind (listUpdate_at atL rfl (wpAny_bind (seqEpoch_at atE rfl ?_)) (by rw [List.size_toArray, sizeLine_eq]; omega) (Nat.zero_le _))))
  refine wpAny_bind (wpAny_newTuple (wpAny_bind (wpAny_newList (wpAny_holding ?_) (Nat.zero_le _))) (by show vs.length ≤ _; rw [sizeLine_eq]; omega))
  show wpAny (model prog w) A _ P E { s with heap := midHeap s.heap a vs }
  dsimp only
  by_cases few : vs.toArray.size < 2
  · rw [if_pos few, if_pos few]
    refine wpAny_bind (wpAny_pure ?_)
    rw [StateT.run_pure]
    refine wpAny_bind (wpAny_pure ?_)
    dsimp only
    have ev : (arrOf (SortSt.mk' general' (vs.toArray.zip vs.toArray) #[] 7 none)).map (·.2) = vs.toArray := by
      show (vs.toArray.zip vs.toArray).map (·.2) = vs.toArray
      apply Array.toList_inj.mp
      simp [List.map_snd_zip]
    refine wpAny_bind (seqEpoch_at atM rfl ?_)
    rw [ev]
    refine wpAny_bind (listUpdate_at atM rfl ?_ (Nat.zero_le _) (by rw [List.size_toArray, sizeLine_eq]; omega))
    simp only [bne_self_eq_false, Bool.false_eq_true, if_false]
    have fin := h (List.toArray (List.range vs.length)) (List.Perm.refl _) (fun i j hij hj => by
      have : i = j := by rw [List.size_toArray] at few; omega
      subst this
      exact Nat.le_refl _)
    rw [outOf_range] at fin
    exact wpAny_pure fin
  have h2 : 2 ≤ vs.length := by rw [List.size_toArray] at few; omega
  rw [if_neg few, if_neg few]
  refine wpAny_bind (wpAny_mono (hk h2) (fun κ s0 hk => ?_) fun _ _ x => x.elim)
  obtain ⟨rfl, B⟩ := hk
  refine wpAny_bind (wpAny_mono (kat_run (Q := fun st' s' => s' = { s with heap := midHeap s.heap a vs } ∧ ∃ p : Array Nat, Pm vs.length p ∧ Srt rk p vs.length ∧ arrOf st' = p.map (kas_item (vs.toArray.zip vs.toArray)) ∧ failedOf st' = none)
    rfl h2 h64 (fun p' st' s' a1 a2 a3 a4 => ⟨a4.1, p', a4.2.1, a4.2.2, a2, a3⟩) (sort_wp B hi (Q := fun p s' => s' = { s with heap := midHeap s.heap a vs } ∧ Pm vs.length p ∧ Srt rk p vs.length) (by omega) fun q hq hs => ⟨rfl, hq, hs⟩)) ?_ fun _ _ e => e)
  rintro ⟨⟨⟩, st'⟩ s' ⟨rfl, p, hp, hs, arr, nof⟩
  dsimp only
  have outq := kat_snds (ks := vs) (vs := vs) rfl arr
  rw [outq]
  have szq : (List.toArray (p.toList.map fun i => vs.getD i Value.none)).size = vs.length := by rw [List.size_toArray, List.length_map, Array.length_toList, hp.size]
  refine wpAny_bind (seqEpoch_at atM rfl ?_)
  refine wpAny_bind (listUpdate_at atM rfl ?_ (Nat.zero_le _) (Nat.le_trans (Nat.le_of_eq szq) (by rw [sizeLine_eq]; omega)))
  rw [nof]
  simp only [bne_self_eq_false, Bool.false_eq_true, if_false]
  exact wpAny_pure (h p hp hs)
end
def keyL (x : Str) : List Nat := x.cps.toList
theorem keyL_inj {x y : Str} (e : keyL x = keyL y) : x = y := by
  cases x; cases y
  unfold keyL at e
  congr 1
  exact Array.toList_inj.mp e
def rkS (xs : List Str) (i : Nat) : Nat := (xs.countP fun y => decide (keyL y < keyL (xs.getD i Str.empty)))
theorem countP_lt {α : Type} {p q : α → Bool} : ∀ {l : List α} {x : α}, (∀ y, p y = true → q y = true) → x ∈ l → p x = false → q x = true → l.countP p < l.countP q
  | y :: l, x, h, m, hp, hq => by
    rw [List.countP_cons, List.countP_cons]
    rcases List.mem_cons.mp m with rfl | m
    · rw [if_neg (by simp [hp]), if_pos hq]
      have := List.countP_mono_left (l := l) (p := p) (q := q) fun y _ => h y
      omega
    · have := countP_lt h m hp hq
      by_cases c : p y = true
      · rw [if_pos c, if_pos (h y c)]; omega
      · rw [if_neg c]; split <;> omega
theorem rkS_lt {xs : List Str} {i j : Nat} (h1 : i < xs.length) : keyL (xs.getD i Str.empty) < keyL (xs.getD j Str.empty) → rkS xs i < rkS xs j := fun h => by
  refine countP_lt (x := xs.getD i Str.empty) (fun y hy => ?_) ?_ ?_ ?_
  · simp only [decide_eq_true_eq] at hy ⊢
    exact List.lt_trans hy h
  · rw [List.getD_eq_getElem?_getD, List.getElem?_eq_getElem h1]
    exact List.getElem_mem h1
  · simp only [decide_eq_false_iff_not]
    exact List.lt_irrefl _
  · simpa using h
theorem rkS_iff {xs : List Str} (nd : xs.Nodup) {i j : Nat} (h1 : i < xs.length) (h2 : j < xs.length) (d : i ≠ j) : decide (rkS xs i < rkS xs j) = decide (keyL (xs.getD i Str.empty) < keyL (xs.getD j Str.empty)) := by
  have ne : keyL (xs.getD i Str.empty) ≠ keyL (xs.getD j Str.empty) := fun e => by
    have e' := keyL_inj e
    rw [List.getD_eq_getElem?_getD, List.getElem?_eq_getElem h1, List.getD_eq_getElem?_getD, List.getElem?_eq_getElem h2] at e'
    have pw := List.pairwise_iff_getElem.mp nd
    rcases Nat.lt_trichotomy i j with c | c | c
    · exact pw i j h1 h2 c e'
    · exact d c
    · exact pw j i h2 h1 c e'.symm
  by_cases c : keyL (xs.getD i Str.empty) < keyL (xs.getD j Str.empty)
  · rw [decide_eq_true c, decide_eq_true (rkS_lt h1 c)]
  · rw [decide_eq_false c]
    have c' : keyL (xs.getD j Str.empty) < keyL (xs.getD i Str.empty) := by
      by_cases c2 : keyL (xs.getD j Str.empty) < keyL (xs.getD i Str.empty)
      · exact c2
      · exact absurd (List.le_antisymm (List.not_lt.mp c2) (List.not_lt.mp c)) ne
    have := rkS_lt h2 c'
    exact decide_eq_false (by omega)
theorem rkS_inj {xs : List Str} (nd : xs.Nodup) : RkInj xs.length (rkS xs) := fun i j h1 h2 e => by
  by_cases d : i = j
  · exact d
  · have a := rkS_iff nd h1 h2 d
    have b := rkS_iff nd h2 h1 (Ne.symm d)
    rw [e] at a
    rw [← e] at b
    have a' := of_decide_eq_false (a.symm.trans (by simp))
    have b' := of_decide_eq_false (b.symm.trans (by simp))
    have e' := keyL_inj (List.le_antisymm (List.not_lt.mp b') (List.not_lt.mp a'))
    rw [List.getD_eq_getElem?_getD, List.getElem?_eq_getElem h1, List.getD_eq_getElem?_getD, List.getElem?_eq_getElem h2] at e'
    have pw := List.pairwise_iff_getElem.mp nd
    rcases Nat.lt_trichotomy i j with c | c | c
    · exact absurd e' (pw i j h1 h2 c)
    · exact c
    · exact absurd e'.symm (pw j i h2 h1 c)
end L2
namespace L2
open PySem PySem.W PyProof.Rows
theorem paired_get {α β : Type} {F : α → β → Prop} : ∀ {l : List α} {m : List β} {j : Nat} {a : α}, Paired F l m → l[j]? = some a → ∃ b, m[j]? = some b ∧ F a b
  | _, _, 0, a, .cons h _, e => ⟨_, rfl, by cases e; exact h⟩
  | _, _, j + 1, a, .cons _ t, e => paired_get (j := j) t e
theorem paired_len {α β : Type} {F : α → β → Prop} : ∀ {l : List α} {m : List β}, Paired F l m → l.length = m.length
  | _, _, .nil => rfl
  | _, _, .cons _ t => congrArg (· + 1) (paired_len t)
theorem paired_both {α β γ : Type} {F : α → γ → Prop} {G : β → γ → Prop} : ∀ (l : List α) (m : List β), l.length = m.length → (∀ (j : Nat) a b, l[j]? = some a → m[j]? = some b → ∃ c, F a c ∧ G b c) → ∃ cs, Paired F l cs ∧ Paired G m cs
  | [], [], _, _ => ⟨[], .nil, .nil⟩
  | a :: l, b :: m, e, h => by
    obtain ⟨c, f, g⟩ := h 0 a b rfl rfl
    obtain ⟨cs, fs, gs⟩ := paired_both l m (Nat.succ.inj e) fun j x y p q => h (j + 1) x y p q
    exact ⟨c :: cs, .cons f fs, .cons g gs⟩
theorem paired_map2 {ι α β : Type} {F : α → β → Prop} {f : ι → α} {g : ι → β} : ∀ (l : List ι), (∀ i ∈ l, F (f i) (g i)) → Paired F (l.map f) (l.map g)
  | [], _ => .nil
  | i :: l, h => .cons (h i List.mem_cons_self) (paired_map2 l fun j m => h j (List.mem_cons_of_mem _ m))
theorem paired_mem {α β : Type} {F G : α → β → Prop} : ∀ {l : List α} {m : List β}, Paired F l m → (∀ a ∈ l, ∀ b, F a b → G a b) → Paired G l m
  | _, _, .nil, _ => .nil
  | _, _, .cons f t, h => .cons (h _ List.mem_cons_self _ f) (paired_mem t fun a m => h a (List.mem_cons_of_mem _ m))
theorem paired_right {α β : Type} {F : α → β → Prop} : ∀ {l : List α} {m : List β} {b : β}, Paired F l m → b ∈ m → ∃ a, F a b
  | _, _, b, .cons f t, h => by
    rcases List.mem_cons.mp h with rfl | h
    · exact ⟨_, f⟩
    · exact paired_right t h
theorem refs_getD {as : List Addr} {i : Nat} {a : Addr} (e : as[i]? = some a) : (as.map Value.ref).getD i Value.none = .ref a := by
  rw [List.getD_eq_getElem?_getD, List.getElem?_map, e]
  rfl
def tpl (p : Str × V) : HO := .tup [.str p.1, p.2]
def layT (H : Hp) : List Addr → List (Str × V) → Hp
  | a :: as, p :: ps => upd (layT H as ps) a (tpl p)
  | _, _ => H
theorem layT_not {H : Hp} {b : Addr} : ∀ (as : List Addr) (ps : List (Str × V)), b ∉ as → layT H as ps b = H b
  | [], _, _ => rfl
  | _ :: _, [], _ => rfl
  | a :: as, p :: ps, h => by
    show upd (layT H as ps) a (tpl p) b = _
    rw [upd_ne (fun e => h (by rw [e]; exact List.mem_cons_self)), layT_not as ps fun m => h (List.mem_cons_of_mem _ m)]
theorem layT_at {H : Hp} : ∀ {as : List Addr} {ps : List (Str × V)} {j : Nat} {a : Addr} {p : Str × V}, as.Nodup → as[j]? = some a → ps[j]? = some p → layT H as ps a = some (tpl p)
  | b :: as, q :: ps, 0, a, p, nd, e1, e2 => by
    cases e1; cases e2
    exact upd_same
  | b :: as, q :: ps, j + 1, a, p, nd, e1, e2 => by
    have nd' := List.nodup_cons.mp nd
    have ne : a ≠ b := fun e => nd'.1 (by rw [← e]; exact List.mem_of_getElem? e1)
    show upd (layT H as ps) b (tpl q) a = _
    rw [upd_ne ne]
    exact layT_at nd'.2 e1 e2
  | b :: as, [], j, a, p, nd, e1, e2 => by cases e2
theorem layT_some {H : Hp} {b : Addr} {o : HO} : ∀ {as : List Addr} {ps : List (Str × V)}, layT H as ps b = some o → H b = some o ∨ ∃ (j : Nat) (p : Str × V), as[j]? = some b ∧ ps[j]? = some p ∧ o = tpl p
  | [], _, e => .inl e
  | _ :: _, [], e => .inl e
  | a :: as, p :: ps, e => by
    by_cases c : b = a
    · subst c
      have e' : upd (layT H as ps) b (tpl p) b = some o := e
      rw [upd_same] at e'
      exact .inr ⟨0, p, rfl, rfl, (Option.some.inj e').symm⟩
    · have e' : upd (layT H as ps) a (tpl p) b = some o := e
      rw [upd_ne c] at e'
      rcases layT_some e' with h | ⟨j, q, h1, h2, h3⟩
      · exact .inl h
      · exact .inr ⟨j + 1, q, h1, h2, h3⟩
section
variable {X : Cx} {pins : List (Addr × Obj)} {σ : St} {H H2 : Hp} {s : Shared} {h' : Heap}
theorem Inv.grown {t' : Nat} (I : Inv X pins σ H s) (k : ∀ b u, s.heap.get? b = some u → h'.get? b = some u) (sm : Same H H2) (fr : ∀ b, b < s.heap.objs.size → H2 b = H b) (new : ∀ b o, H b = none → H2 b = some o → ObjOk X.prog X.w H2 h' b o) : Inv X pins σ H2 { s with heap := h', toks := t' } := by
  refine I.un ⟨fun b u q _ _ _ => k b u q, fun b u q _ _ _ => ⟨u.slots, k b u q⟩, fun b u q n _ => by rw [fr b (Heap.lt_size q)]; exact n, fun b u q _ => ⟨u, k b u q⟩, fun b xs q => sm _ _ q, fun b o u q => sm _ _ q, fun b ps q => ⟨#[], by rw [sm _ _ q]; simp⟩⟩ fun b o e => ?_
  cases c : H b with
  | none => exact new b o c e
  | some u =>
    have e2 := sm _ _ c
    rw [e] at e2
    cases e2
    exact (I.hok b _ c).stay (fun c v _ q => k c v q) (fun c q => sm _ _ q) fun c xs q => sm _ _ q
end
theorem katTups_of {h : Heap} : ∀ {as : List Addr} {ws : List (Value × Value)}, Paired (fun a (c : Value × Value) => h.get? a = some { cls := .type "tuple", data := .seq #[c.1, c.2] }) as ws → KatTups h (as.map Value.ref) (ws.map (·.1))
  | _, _, .nil => KatTups.nil
  | _, _, .cons e t => KatTups.cons e rfl rfl rfl (katTups_of t)
section
variable {X : Cx} {o : Expr} {to : TE} {p apos cpos pos : Pos}
def tSrtItems (to : TE) : TE := fun σ H Q => to σ H fun x H1 => ∃ (d : Addr) (ps : List (Str × V)), x = .ref d ∧ H1 d = some (.dK (ps.map fun p => (Sum.inr p.1, p.2))) ∧ ps.length < 64 ∧
  ∀ (H2 : Hp) (l : Addr) (ts : List Addr) (qs : List (Str × V)), Same H1 H2 → qs.Perm ps → qs.Pairwise (fun a b => keyL a.1 < keyL b.1) → H2 l = some (.lst (ts.map V.ref)) → Paired (fun t p => H2 t = some (.tup [.str p.1, p.2])) ts qs → H1 l = none → Q (.ref l) H2
theorem pe_srtItems (hc : X.calm = true) (hg : Gl X "sorted") (hm : X.mg "sorted" = none) (ho : PE X o to)
    (hbase : attributeBase o "items" X.env (eval o X.env) = eval o X.env := by rfl) (hline : (apos.endLine == cpos.line) = true := by rfl)
    (he : starEach [.Call (.Attribute o "items" apos) [] [] cpos] X.env = [(false, eval (.Call (.Attribute o "items" apos) [] [] cpos) X.env)] := by rfl) :
    PE X (.Call (.Name "sorted" p) [.Call (.Attribute o "items" apos) [] [] cpos] [] pos) (tSrtItems to) := by
  intro pins s σ H Q I h
  refine wpAny_Call_Name_kw (ld_blt I hg hm boot_sorted ?_)
  refine PyProof.Rows.callWith_builtin1 ?_ he rfl
  rw [he]
  show wpAny _ _ (spliced ((false, eval (.Call (.Attribute o "items" apos) [] [] cpos) X.env) :: backTo pos [])) _ _ s
  refine Calls.spliced_cons (wpAny_Call_method0_late hbase hline (thn (ho pins s σ H _ I h) fun u s1 ⟨x, H1, I1, rx, d, ps, ex, ed, h64, q⟩ => ?_))
  subst ex
  obtain rfl : u = Value.ref d := rx
  obtain ⟨hsz, hd, vs, rel, dd⟩ := dk_of I1.hok ed
  have ndK : (vs.map (·.1)).Nodup := by obtain ⟨_, _, _, _, _, _, _, _, z⟩ := dd; exact z
  obtain ⟨ep, da⟩ := dd.dictAt
  refine ⟨"dict", "dict.items", PySem.F.plainAttrs_dict, PySem.F.slot_dict_items, PySem.F.type_dict_items, dd.typeIs, fun b q => ?_, Calls.callWith_builtin rfl (PySem.evalArgs_none (call_meetsIn PySem.F.slot_dict_items dd.typeIs PySem.F.entry_dict_items (PySem.F.args_dict_items_1 _) (meets_dict_items (mixKind X.prog X.w) d hd) ⟨⟨vs, dd⟩, ?_⟩))⟩
  · cases q
    obtain ⟨ob, _, _, h1, h2, _⟩ := dd
    exact ⟨ob, h1, h2.2.1⟩
  refine Calls.spliced_nil ?_
  refine Calls.call_function_entry kind_sorted plain_sorted entry_sorted (args_sorted1 _) ?_
  unfold Builtin.«sorted»
  refine wpAny_bind (m := checkCount "sorted" 1 1 _) (wpAny_pure ?_)
  have lv : vs.length = ps.length := by rw [← paired_len rel, List.length_map]
  refine wpAny_bind (PySem.W.kdx_collect (A := X.A.in1) (knd := mixKind X.prog X.w) (kvs := vs) (ep := ep) (I1.ok.hd hc) ⟨_, Heap.get?_push_size _ rfl, rfl, rfl⟩ (da.push _) (by rw [lv, sizeLine_eq]; omega) fun h' tk as hk hl hG => ?_)
  have hl2 : as.length = ps.length := hl.trans lv
  obtain ⟨ws, w1, w2⟩ : ∃ ws : List (Value × Value), Paired (fun a (c : Value × Value) => h'.get? a = some { cls := .type "tuple", data := .seq #[c.1, c.2] }) as ws ∧ Paired (fun (p : Str × V) (c : Value × Value) => (∃ t, c.1 = Value.str p.1 t) ∧ RelV p.2 c.2) ps ws := by
    refine paired_both as ps hl2 fun j a p ea ep => ?_
    obtain ⟨key, k, x, e1, e2, e3⟩ := hG.pairs j a ea
    obtain ⟨b, e4, e5, e6⟩ := paired_get rel (show (ps.map fun p => ((Sum.inr p.1 : Key), p.2))[j]? = some (Sum.inr p.1, p.2) by rw [List.getElem?_map, ep]; rfl)
    rw [e1] at e4
    cases e4
    have e5' : (Sum.inr p.1 : Key) = k := e5
    subst e5'
    obtain ⟨t, et⟩ := Value.isStrOf_shape (x := p.1) (v := key) e2
    exact ⟨(key, x), e3, ⟨t, et⟩, e6⟩
  have lR : (as.map Value.ref).length = (ps.map (·.1)).length := by rw [List.length_map, List.length_map, hl2]
  have nd : (ps.map (·.1)).Nodup := by
    have ek : vs.map (·.1) = (ps.map (·.1)).map (Sum.inr : Str → Key) := by
      rw [← KV.keys rel, List.map_map, List.map_map]
      rfl
    rw [ek] at ndK
    exact (List.pairwise_map.mp ndK).imp fun {a b} z e => z (by rw [e])
  refine wpAny_bind (wpAny_newList ?_ (by rw [List.length_map, hl2, sizeLine_eq]; omega))
  have hoL : (h'.push (seqObj "list" (as.map Value.ref).toArray 0)).get? h'.objs.size = some (seqObj "list" (as.map Value.ref).toArray 0) := Heap.get?_push_size _ rfl
  have low : ∀ a ∈ as, a < h'.objs.size := fun a m => hG.there m
  refine wpAny_bind (wpAny_holding (wpAny_call_entry slot_list_sort ⟨_, hoL, rfl⟩ entry_list_sort (list_sort_rk (rk := rkS (ps.map (·.1))) hoL (by rw [List.length_map, hl2]; exact h64) (lR ▸ rkS_inj nd) (fun _ => ?_) fun qa hq hs => ⟨_, rfl, ?_⟩) (args_list_sort _)))
  · have stay : ∀ a ∈ as, ∀ ob, h'.get? a = some ob → (midHeap (h'.push (seqObj "list" (as.map Value.ref).toArray 0)) h'.objs.size (as.map Value.ref)).get? a = some ob := fun a m ob e => by
      rw [midHeap_old (Nat.ne_of_lt (low a m)) (by rw [size_push']; exact Nat.lt_succ_of_lt (low a m))]
      exact Heap.get?_push_of_some _ e
    have w3 := paired_mem w1 fun a m c e => stay a m _ e
    refine kat_kind (fs := ws.map (·.1)) (T := Value.type "str") (katTups_of w3) (by rw [List.length_map, ← paired_len w2]; rename_i z; rw [List.length_map, hl2] at z; omega) (fun v hv => ?_) (by decide) ⟨rfl, fun i j C hi hj dn hC => ?_⟩
    · obtain ⟨c, mc, rfl⟩ := List.mem_map.mp hv
      obtain ⟨p, ⟨t, et⟩, _⟩ := paired_right w2 mc
      rw [et]
      exact Looks.of_pure rfl
    · have hi1 : i < as.length := by rw [List.length_map] at hi; exact hi
      have hj1 : j < as.length := by rw [List.length_map] at hj; exact hj
      have hi2 : i < ps.length := by omega
      have hj2 : j < ps.length := by omega
      obtain ⟨ci, eci, gi⟩ := paired_get w3 (List.getElem?_eq_getElem hi1)
      obtain ⟨cj, ecj, gj⟩ := paired_get w3 (List.getElem?_eq_getElem hj1)
      obtain ⟨c1, ec1, ⟨ti, eti⟩, _⟩ := paired_get w2 (List.getElem?_eq_getElem hi2)
      obtain ⟨c2, ec2, ⟨tj, etj⟩, _⟩ := paired_get w2 (List.getElem?_eq_getElem hj2)
      rw [eci] at ec1; cases ec1
      rw [ecj] at ec2; cases ec2
      have gd : ∀ (i : Nat) (h : i < ps.length), (ps.map (·.1)).getD i Str.empty = ps[i].1 := fun i h => by
        rw [List.getD_eq_getElem?_getD, List.getElem?_map, List.getElem?_eq_getElem h]
        rfl
      have hi3 : i < (ps.map (·.1)).length := by rw [List.length_map]; exact hi2
      have hj3 : j < (ps.map (·.1)).length := by rw [List.length_map]; exact hj2
      rw [rkS_iff nd hi3 hj3 dn, gd i hi2, gd j hj2] at hC
      have ne : ps[i].1 ≠ ps[j].1 := fun e => by
        have pw := List.pairwise_iff_getElem.mp nd
        rcases Nat.lt_trichotomy i j with c | c | c
        · exact pw i j hi3 hj3 c (by rw [List.getElem_map, List.getElem_map]; exact e)
        · exact dn c
        · exact pw j i hj3 hi3 c (by rw [List.getElem_map, List.getElem_map]; exact e.symm)
      show wpAny _ _ (keyLt' _ ((as.map Value.ref).getD i Value.none) ((as.map Value.ref).getD j Value.none)) C _ _
      rw [refs_getD (List.getElem?_eq_getElem hi1), refs_getD (List.getElem?_eq_getElem hj1)]
      refine kat_lt gi rfl gj rfl ?_
      show KatLex _ _ _ _ _ _ [(ci.1, cj.1), (ci.2, cj.2)] 0 _
      refine kat_cons ?_
      rw [eti, etj]
      refine wpAny_eqBool_str ?_
      rw [decide_eq_false ne]
      refine kat_no ?_
      show wpAny _ _ (oneLt' true _ _) _ _ _
      exact oneLt_str hC
  have lt1 : s1.heap.objs.size < h'.objs.size := Heap.lt_size (hk _ _ (Heap.get?_push_size _ rfl))
  have up : ∀ a ∈ as, s1.heap.objs.size < a := fun a m => Nat.lt_trans (Nat.lt_succ_self _) (by have := hG.above a m; rw [size_push'] at this; exact this)
  obtain ⟨ee, he2⟩ := sortedHeap_at (vs := as.map Value.ref) (out := (outOf (as.map Value.ref) qa).toArray) hoL
  have old : ∀ b ob, h'.get? b = some ob → (sortedHeap (h'.push (seqObj "list" (as.map Value.ref).toArray 0)) h'.objs.size (as.map Value.ref) (outOf (as.map Value.ref) qa).toArray).get? b = some ob := fun b ob e => by
    have lb := Heap.lt_size e
    rw [sortedHeap_old (Nat.ne_of_lt lb) (by rw [size_push']; exact Nat.lt_succ_of_lt lb)]
    exact Heap.get?_push_of_some _ e
  have mem : ∀ i ∈ qa.toList, i < as.length := fun i m => by
    have := List.mem_range.mp (hq.mem_iff.mp m)
    rw [List.length_map] at this
    exact this
  have asnd : as.Nodup := hG.rise.imp fun {a b} z e => by rw [e] at z; exact Nat.lt_irrefl _ z
  generalize hts : (qa.toList.map fun i => as.getD i 0) = ts
  have hfr : ∀ b, b < s1.heap.objs.size → upd (layT H1 as ps) h'.objs.size (.lst (ts.map V.ref)) b = H1 b := fun b lb => by
    rw [upd_ne (Nat.ne_of_lt (Nat.lt_trans lb lt1)), layT_not as ps fun m => Nat.lt_asymm lb (up b m)]
  have sm : Same H1 (upd (layT H1 as ps) h'.objs.size (.lst (ts.map V.ref))) := fun b ob e => by rw [hfr b (I1.hok.lt e)]; exact e
  have atT : ∀ (j : Nat) (h1 : j < as.length) (h2 : j < ps.length), upd (layT H1 as ps) h'.objs.size (.lst (ts.map V.ref)) as[j] = some (tpl ps[j]) := fun j h1 h2 => by
    rw [upd_ne (Nat.ne_of_lt (low _ (List.getElem_mem h1)))]
    exact layT_at asnd (List.getElem?_eq_getElem h1) (List.getElem?_eq_getElem h2)
  refine wpAny_pure ⟨_, rfl, .ref h'.objs.size, _, I1.grown (t' := tk) (fun b u e => old b u (hk b u (Heap.get?_push_of_some _ e))) sm hfr (fun b ob hn e => ?_), rfl, q _ _ ts (qa.toList.map fun i => ps.getD i (Str.empty, V.non)) sm ?_ ?_ upd_same ?_ (I1.hok.fresh (Nat.le_of_lt lt1))⟩
  · by_cases c : b = h'.objs.size
    · subst c
      rw [upd_same] at e
      cases e
      refine ⟨?_, outOf (as.map Value.ref) qa, ee, ?_, he2⟩
      · rw [List.length_map, ← hts, List.length_map, Array.length_toList, hq.size, List.length_map, hl2, sizeLine_eq]
        omega
      · rw [← hts, List.map_map]
        refine paired_map2 _ fun i m => ?_
        show (as.map Value.ref).getD i Value.none = Value.ref (as.getD i 0)
        rw [refs_getD (List.getElem?_eq_getElem (mem i m)), List.getD_eq_getElem?_getD, List.getElem?_eq_getElem (mem i m)]
        rfl
    · rw [upd_ne c] at e
      rcases layT_some e with z | ⟨j, p, e1, e2, rfl⟩
      · rw [hn] at z; cases z
      · obtain ⟨cc, e3, g⟩ := paired_get w1 e1
        obtain ⟨c2, e4, ⟨t, et⟩, r⟩ := paired_get w2 e2
        rw [e3] at e4; cases e4
        exact ⟨by show 2 ≤ _; rw [sizeLine_eq]; omega, [cc.1, cc.2], .cons ⟨t, et⟩ (.cons r .nil), _, old b _ g, rfl, _, rfl⟩
  · have e : (List.range (as.map Value.ref).length).map (fun i => ps.getD i (Str.empty, V.non)) = ps := by
      apply List.ext_getElem
      · simp [hl2]
      · intro i h1 h2
        simp [h2]
    exact (hq.map _).trans (by rw [e])
  · refine List.pairwise_iff_getElem.mpr fun i j h1 h2 hij => ?_
    have n1 : i < (as.map Value.ref).length := by rw [List.length_map, Array.length_toList, hq.size] at h1; exact h1
    have n2 : j < (as.map Value.ref).length := by rw [List.length_map, Array.length_toList, hq.size] at h2; exact h2
    have le := hs i j (Nat.le_of_lt hij) n2
    have inj : RkInj (as.map Value.ref).length (rkS (ps.map (·.1))) := lR ▸ rkS_inj nd
    have ne : gk (rkS (ps.map (·.1))) qa i ≠ gk (rkS (ps.map (·.1))) qa j := fun e => Nat.ne_of_lt hij (hq.ne inj n1 n2 e)
    have lt : rkS (ps.map (·.1)) (qa.getD i 0) < rkS (ps.map (·.1)) (qa.getD j 0) := Nat.lt_of_le_of_ne le ne
    have m1 : qa.getD i 0 < (ps.map (·.1)).length := by rw [← lR]; exact hq.lt n1
    have m2 : qa.getD j 0 < (ps.map (·.1)).length := by rw [← lR]; exact hq.lt n2
    have lt2 := rkS_iff nd m1 m2 (hq.dif n1 n2 (Nat.ne_of_lt hij))
    rw [decide_eq_true lt] at lt2
    have lt3 := of_decide_eq_true lt2.symm
    have gd : ∀ (k : Nat), (ps.map (·.1)).getD k Str.empty = (ps.getD k (Str.empty, V.non)).1 := fun k => by
      rw [List.getD_eq_getElem?_getD, List.getD_eq_getElem?_getD, List.getElem?_map]
      cases ps[k]? <;> rfl
    rw [gd, gd] at lt3
    have z1 : i < qa.size := by rw [hq.size]; exact n1
    have z2 : j < qa.size := by rw [hq.size]; exact n2
    rw [List.getElem_map, List.getElem_map, Array.getElem_toList, Array.getElem_toList, ← getD_get z1, ← getD_get z2]
    exact lt3
  · rw [← hts]
    refine paired_map2 _ fun i m => ?_
    have a1 := mem i m
    have a2 : i < ps.length := by omega
    have := atT i a1 a2
    rw [hts]
    rw [List.getD_eq_getElem?_getD, List.getElem?_eq_getElem a1, List.getD_eq_getElem?_getD, List.getElem?_eq_getElem a2]
    exact this
end
end L2
namespace L2
open PySem PySem.Spec PyProof.Rows
theorem strs_back : ∀ {its : List Value} {ys : List Str}, StrsAre its ys → Vals (ys.map V.str) its
  | _, _, .nil => .nil
  | _, _, .cons _ _ r => .cons ⟨_, rfl⟩ (strs_back r)
theorem risingS_pw : ∀ (l : List Str) (p : Str), risingS p l = true → (p :: l).Pairwise fun a b => ¬ keyL b < keyL a
  | [], p, _ => List.pairwise_singleton _ _
  | x :: l, p, h => by
    have h' : (!ltCps x.cps.toList p.cps.toList && risingS x l) = true := h
    rw [Bool.and_eq_true] at h'
    have a : ¬ keyL x < keyL p := by
      have z := h'.1
      rw [ltCps_eq, Bool.not_eq_true', decide_eq_false_iff_not] at z
      exact z
    have r := risingS_pw l x h'.2
    refine List.pairwise_cons.mpr ⟨fun y m => ?_, r⟩
    rcases List.mem_cons.mp m with rfl | m
    · exact a
    · have b := (List.pairwise_cons.mp r).1 y m
      exact List.not_lt.mpr (List.le_trans (List.not_lt.mp a) (List.not_lt.mp b))
theorem sortedS_pw {l : List Str} (h : sortedS l = true) : l.Pairwise fun a b => ¬ keyL b < keyL a := by
  cases l with
  | nil => exact .nil
  | cons p l => exact risingS_pw l p h
section
variable {X : Cx}
theorem call_sortedS : CallR X (.builtin "sorted") (fun xs H Q => ∃ (p : Addr) (ns : List Str), xs = [.ref p] ∧ SqL X.K H p (ns.map V.str) ∧ ns.length < 64 ∧ ∀ (l : Addr) (ms : List Str), H l = none → ms.Perm ns → ms.Pairwise (fun a b => ¬ keyL b < keyL a) → Q (.ref l) (upd H l (.lst (ms.map V.str)))) := by
  intro pins s σ H xs us Q I r h
  obtain ⟨p, ns, rfl, hq, h64, q⟩ := h
  obtain ⟨u, rfl, rx⟩ := vals1 r
  cases rx
  obtain ⟨its, r', pl, hz⟩ := I.list hq
  have hI := strs_of r'
  have hlen : its.length = ns.length := by rw [← r'.length, List.length_map]
  refine sorted_strs pl.isList hI (by omega) fun out ms a1 a2 a3 => ?_
  obtain ⟨e, he⟩ := sortedAll_at s.heap its out
  refine ⟨.ref (s.heap.objs.size + 1), _, I.laid (t' := s.toks) (fun b o e => sortedAll_old e) (Nat.le_succ _) (show ObjOk X.prog X.w _ _ _ (.lst (ms.map V.str)) from ⟨?_, out.toList, e, strs_back a1, he⟩), rfl, q _ ms (I.hok.fresh (Nat.le_succ _)) a2 (sortedS_pw a3)⟩
  rw [List.length_map, a2.length_eq, sizeLine_eq]
  omega
end
section
variable {X : Cx}
def rEqTD (K : PySem.W.Frag) : R2 := fun x y H Q => ∃ a b xs ys, x = .ref a ∧ y = .ref b ∧ SqT K H a xs ∧ SqT K H b ys ∧ xs.length = ys.length ∧ ∃ e : Nat → Bool, (∀ j, j < xs.length → EqH K H 60 (xs.getD j .non) (ys.getD j .non) (e j)) ∧ Q (.bl ((List.range xs.length).all e)) H
theorem op_eqTD (hu : X.A.units + 64 < cLine) : OpR X (compareOp .Eq) (rEqTD X.K) := by
  intro pins s σ H x y v u Q I rx ry h
  obtain ⟨a, b, xs, ys, rfl, rfl, ha, hb, hl, e, he, q⟩ := h
  cases rx
  cases ry
  obtain ⟨us, r, pl, _⟩ := I.tuple ha
  obtain ⟨ws, r', pl', _⟩ := I.tuple hb
  have hz : us.toArray.size = ws.toArray.size := by simp only [List.size_toArray]; rw [← r.length, ← r'.length, hl]
  have e1 : xs.length = us.toArray.size := by rw [List.size_toArray, ← r.length]
  refine SeqAt.eq_tupleAt (e := e) pl pl' (by omega) (fun j h1 h2 => eqH_at I (he j (by rw [e1]; exact h1)) (vals_at r h1) (vals_at r' h2) (by rw [in1_units]; omega)) ⟨.bl ((List.range xs.length).all e), H, I, ?_, q⟩
  show Value.bool _ = Value.bool _
  rw [← hz, Nat.min_self, beq_self_eq_true, Bool.and_true, e1]
end
end L2
namespace L2
open PySem PySem.Spec PySem.Calls PyProof.Rows
section
variable {X : Cx}
end
end L2
namespace L2
open PySem PySem.Spec PyProof.Rows
section
variable {prog : Program} {w : World} {A : Around} {E : Value → Shared → Prop} {s : Shared} {κ : Type} [DecidableEq κ] [BEq κ] [LawfulBEq κ] {knd : KeyKind prog w κ}
end
section
variable {prog : Program} {w : World} {A : Around} {E : Value → Shared → Prop} {s : Shared} {κ : Type} [DecidableEq κ] [BEq κ] [LawfulBEq κ] {knd : PySem.KeyKind prog w κ} {R : Result → Shared → Prop}
end
section
variable {prog : Program} {w : World} {A : Around} {E : Value → Shared → Prop} {s : Shared} {κ : Type} [DecidableEq κ] [BEq κ] [LawfulBEq κ] {knd : PySem.KeyKind prog w κ}
end
section
variable {X : Cx} {e : Expr} {te : TE} {p p2 pos pos2 : Pos}
end
def layH (H : Hp) : List Addr → List HO → Hp
  | a :: as, o :: os => upd (layH H as os) a o
  | _, _ => H
theorem layH_not {H : Hp} {b : Addr} : ∀ (as : List Addr) (os : List HO), b ∉ as → layH H as os b = H b
  | [], _, _ => by unfold layH; rfl
  | _ :: _, [], _ => rfl
  | a :: as, o :: os, n => by
    show upd (layH H as os) a o b = H b
    rw [upd_ne (fun z => n (by rw [z]; exact List.mem_cons_self)), layH_not as os fun m => n (List.mem_cons_of_mem _ m)]
theorem layH_at {H : Hp} : ∀ {as : List Addr} {os : List HO} {j : Nat} {a : Addr} {o : HO}, as.Nodup → as[j]? = some a → os[j]? = some o → layH H as os a = some o
  | x :: as, y :: os, 0, a, o, _, e1, e2 => by
    cases e1; cases e2
    exact upd_same
  | x :: as, y :: os, j + 1, a, o, nd, e1, e2 => by
    obtain ⟨n1, n2⟩ := List.nodup_cons.mp nd
    show upd (layH H as os) x y a = some o
    rw [upd_ne (fun z => n1 (by rw [← z]; exact List.mem_of_getElem? (i := j) e1))]
    exact layH_at n2 (j := j) e1 e2
  | [], _, _, _, _, _, e1, _ => by simp at e1
  | _ :: _, [], _, _, _, _, _, e2 => by simp at e2
theorem layH_some {H : Hp} {b : Addr} {o : HO} : ∀ {as : List Addr} {os : List HO}, layH H as os b = some o → H b = some o ∨ ∃ j : Nat, as[j]? = some b ∧ os[j]? = some o
  | [], _, e => .inl (by unfold layH at e; exact e)
  | _ :: _, [], e => .inl e
  | a :: as, y :: os, e => by
    by_cases c : b = a
    · subst c
      have e' : upd (layH H as os) b y b = some o := e
      rw [upd_same] at e'
      exact .inr ⟨0, rfl, e'⟩
    · have e' : upd (layH H as os) a y b = some o := e
      rw [upd_ne c] at e'
      rcases layH_some e' with h | ⟨j, h1, h2⟩
      · exact .inl h
      · exact .inr ⟨j + 1, h1, h2⟩
section
variable {X : Cx} {o : Expr} {to : TE} {p apos cpos pos : Pos}
end
end L2
namespace HT
open PySem PyProof.Rows
def lexLtS : List Str → List Str → Bool
  | [], [] => false
  | [], _ :: _ => true
  | _ :: _, [] => false
  | x :: xs, y :: ys => if x = y then lexLtS xs ys else decide (x.cps.toList < y.cps.toList)
theorem lexLtS_cons (x y : Str) (xs ys : List Str) : lexLtS (x :: xs) (y :: ys) = if x = y then lexLtS xs ys else decide (x.cps.toList < y.cps.toList) := rfl
theorem lexLtS_nil_nil : lexLtS [] [] = false := rfl
section
open PySem.SeqAt
open PySem.AutoSeq1 (wpAny_loadPart')
open PySem.MeetsSeq PySem.MeetsSeq2 PySem.MeetsSeq3
end
section
variable {prog : Program} {w : World} {A : Around} {E : Value → Shared → Prop} {s : Shared}
end
end HT
namespace L2
open PySem PySem.Spec PySem.Calls PyProof.Rows
section
variable {X : Cx}
end
end L2
namespace L2
open PySem PySem.Spec PySem.Calls PyProof.Rows
section
variable {X : Cx}
end
end L2
namespace L2
open PySem PySem.Spec PySem.W PyProof.Rows
def Bts (i : Int) : Prop := Builtin.Int.intBits i ≤ 1048576
section
variable {X : Cx}
def CMulW (i j : Int) : Prop := CMul i j ∨ (Bts i ∧ Bts j)
theorem CMulW.ok {i j : Int} (h : CMulW i j) : IntMulOk i j := by
  rcases h with h | ⟨h1, h2⟩
  · exact h.ok
  · exact mulOk_of_bits (m := 1048576) (n := 1048576) h1 h2 (by decide)
theorem op_mulW : OpR X (binaryOp .Mult) (rI CMulW fun i j => .int (i * j)) := opI fun _ _ _ _ _ _ _ hc q => mul_int q hc.ok
end
theorem bts_of {ns : List Int} (h : WData.layableAll [.list (ns.map WData.int)] = true) : ∀ n ∈ ns, Bts n := fun n hn => by
  have h1 := layableW_arg h _ List.mem_cons_self
  have h2 := layableW_item h1 (.int n) (List.mem_map_of_mem hn)
  exact (layableW_iff.mp h2).2.2
end L2
namespace L2
open PySem PySem.W PySem.Calls PyProof.Rows
theorem attach_callL {l : OpenLaw} {n : Nat} {q : Program} {loose : List Str} {XP : (Str → Option Value) → Heap → Prop} {YP : World → Heap → Prop} {d : DefRec}
    (hn : l.most = some n) (hdf : d.params.defaults = [])
    (call : ∀ (w : World) (s₀ s₁ : Shared) (mg mb : Str → Option Value) (fa : Addr) (o : Obj) (pm cd doc : Value) (a : Addr) (vs : List Value) (ns : List Int),
      Ground q loose [] XP w s₀ mg mb s₁.heap → YP w s₁.heap →
      s₁.heap.get? fa = some o → o.data = .func (docDef d.name d.params d.body d.scope pm cd doc) → s₁.heap.CodeRec cd d.name → mg d.name = some (.ref fa) →
      s₁.heap.get? a = some { cls := .type "list", data := .seq vs.toArray } → IntsAre vs ns → ns.length ≤ n → (∀ n ∈ ns, Bts n) → s₁.gens = #[] →
      codeAny (model l.prog w) callerA (.call (.ref fa) ⟨[.ref a], []⟩) (fun r s' => r = .ok (.ret (.bool true)) ∧ OldK s₁.heap s'.heap ∧ s'.os = s₁.os ∧ AllBare s'.gens) s₁) :
    WalkO q loose XP YP l.row.toRowW d [] (fun f vs => PySem.call f vs) := by
  intro w s₀ s₁ mg mb G Y fa o pm cd doc dV kV ho hd hcd hD hmg hg args vals as hpre hlay hrd hwl hlo
  obtain rfl : dV = .none := Dflts.none hD hdf
  obtain rfl : kV = .none := Dflts.noKw hD
  obtain ⟨a, vs, ns, rfl, rfl, hobj, hints, hlen⟩ := Att.script_of hn hpre hwl
  have hb2 : ∀ n ∈ ns, Bts n := bts_of hlay
  refine enter_call (codeAny_mono (call w s₀ s₁ mg mb fa o pm cd doc a vs ns G Y ho (fd_plain hd) hcd hmg hobj hints hlen hb2 hg) fun r s' hq => ?_)
  obtain ⟨rfl, h2, h3, h4⟩ := hq
  exact ⟨.inl ⟨.bool true, .bool true, [], rfl, fun _ => rfl, .bool true, Att.post_true l _, fun _ => ⟨List.Pairwise.nil, fun _ hm => (nomatch hm)⟩⟩, h2, h3, h4⟩
end L2
namespace L2
open PySem PySem.Spec PyProof.Rows
theorem walk_ofL {l : PySem.W.OpenLaw} {n k : Nat} {q : Program} {loose : List Str} {XP : (Str → Option Value) → Heap → Prop} {YP : World → Heap → Prop} {d : DefRec} {K : Params → PySem.W.Frag} {CX : World → CXT} {sp : World → Sp} {x : Str}
    (hn : l.most = some n) (hn2 : n ≤ sizeLine) (hdf : d.params.defaults = []) (hr : Room k callerA)
    (hY : ∀ (w : World) (h : Heap), YP w h → (K w.params).In h)
    (F : ∀ (w : World) (mg : Str → Option Value) (fa : Addr) (h : Heap), (K w.params).In h → h.Ns mainGlobals mg → mg d.name = some (.ref fa) →
      ∃ fd : FuncData, (∀ (s : Shared) (u : Value), BindsTo s fd ⟨[u], []⟩ [(x, u)]) ∧
        ∀ base : Heap, (K w.params).In base → base.Ns mainGlobals mg → FnOk l.prog w (K w.params) mg base (CX w) k fa fd [x] (sp w))
    (hsp : ∀ (w : World) (H : Hp) (a : Addr) (ns : List Int), ns.length ≤ n → (∀ n ∈ ns, Bts n) → SqL (K w.params) H a (ns.map V.int) → sp w [.ref a] H (fun v _ => v = .bl true) fun _ _ _ => False)
    (hCX : ∀ (w : World) (H : Hp) (s : Shared) (e : Value) (s' : Shared), CX w [] H s (fun _ _ _ => False) e s' → False) :
    PySem.W.WalkO q loose XP YP l.row.toRowW d [] (fun f vs => PySem.call f vs) := by
  refine attach_callL hn hdf fun w s₀ s₁ mg mb fa o pm cd doc a vs ns G Y ho hd hcd hmg hobj hints hlen hbt hg => ?_
  have KX := hY w _ Y
  obtain ⟨fd, hb, hF⟩ := F w mg fa _ KX G.T.g hmg
  exact law_call KX G.T.g G.T.b G.T.builtins G.T.nolimit hg hobj hints (Nat.le_trans hlen hn2) hr hF hb (fun H hO hS => hsp w H a ns hlen hbt hS) fun H e s' => hCX w H s₁ e s'
theorem comp_valJ {n : Nat} {val : Nat → V} {k : Nat} {g : TG} {tf : TT} {te : TE} {σ : St} {H : Hp} {Q : VK} (J : Nat → List V → Hp → Prop) (j0 : J 0 [] H) (hn : ∀ i ys H', J i ys H' → ys.length ≤ i) (hl : n ≤ sizeLine)
    (hs : ∀ i ys H', i < n → J i ys H' → g (val i) (List.replicate k none ++ σ) H' fun σ4 H4 => σ4.drop k = σ ∧ tf σ4 H4 fun b H5 => if b = true then te σ4 H5 fun y H6 => J (i + 1) (ys ++ [y]) H6 else J (i + 1) ys H5)
    (hd : ∀ ys H', J n ys H' → NewL Q ys H') :
    ∃ W : Nat → Nat → List V → Hp → Prop, (∃ m, W 0 m [] H) ∧ ∀ i m ys H2, W i m ys H2 →
      ((Itv n val).stop i H2 ∧ NewL Q ys H2) ∨
      ((Itv n val).go i H2 ∧ ys.length < sizeLine ∧ ∀ x H3, (Itv n val).yld i H2 x H3 → g x (List.replicate k none ++ σ) H3 fun σ4 H4 => σ4.drop k = σ ∧ tf σ4 H4 fun b H5 =>
        if b = true then te σ4 H5 fun y H6 => ∃ m', m' < m ∧ W (i + 1) m' (ys ++ [y]) H6 else ∃ m', m' < m ∧ W (i + 1) m' ys H5) := by
  refine ⟨fun i m ys H2 => m = n - i ∧ i ≤ n ∧ J i ys H2, ⟨n, by simp, Nat.zero_le _, j0⟩, ?_⟩
  rintro i m ys H2 ⟨rfl, hi, jj⟩
  by_cases hlt : i < n
  · refine .inr ⟨hlt, ?_, fun x H3 y => ?_⟩
    · have := hn i ys H2 jj
      omega
    · obtain ⟨e, y⟩ := y
      subst e y
      have h := hs i ys _ hlt jj
      have key : ∀ zs H6, J (i + 1) zs H6 = ∃ m', m' < n - i ∧ m' = n - (i + 1) ∧ i + 1 ≤ n ∧ J (i + 1) zs H6 := fun zs H6 => propext ⟨fun z => ⟨n - (i + 1), by omega, rfl, hlt, z⟩, fun ⟨_, _, _, _, z⟩ => z⟩
      have fe : (fun (b : Bool) (H5 : Hp) (σ4 : St) => if b = true then te σ4 H5 (fun y H6 => J (i + 1) (ys ++ [y]) H6) else J (i + 1) ys H5) = fun b H5 σ4 => if b = true then te σ4 H5 (fun y H6 => ∃ m', m' < n - i ∧ m' = n - (i + 1) ∧ i + 1 ≤ n ∧ J (i + 1) (ys ++ [y]) H6) else ∃ m', m' < n - i ∧ m' = n - (i + 1) ∧ i + 1 ≤ n ∧ J (i + 1) ys H5 := by
        funext b H5 σ4
        rw [← key ys H5]
        congr 2
        funext y H6
        exact key _ _
      have fe' : ∀ b H5 σ4, (if b = true then te σ4 H5 (fun y H6 => J (i + 1) (ys ++ [y]) H6) else J (i + 1) ys H5) = if b = true then te σ4 H5 (fun y H6 => ∃ m', m' < n - i ∧ m' = n - (i + 1) ∧ i + 1 ≤ n ∧ J (i + 1) (ys ++ [y]) H6) else ∃ m', m' < n - i ∧ m' = n - (i + 1) ∧ i + 1 ≤ n ∧ J (i + 1) ys H5 := fun b H5 σ4 => congrFun (congrFun (congrFun fe b) H5) σ4
      simp only [fe'] at h
      exact h
  · have e : i = n := by omega
    subst e
    exact .inl ⟨Nat.le_refl _, hd ys H2 jj⟩
end L2
namespace L2
open PySem PySem.W PyProof.Rows
def rkG {α : Type} (lt : α → α → Bool) (xs : List α) (d : α) (i : Nat) : Nat := xs.countP fun y => lt y (xs.getD i d)
theorem rkG_lt {α : Type} {lt : α → α → Bool} {xs : List α} {d : α} (tr : ∀ a b c, lt a b = true → lt b c = true → lt a c = true) (irr : ∀ a, lt a a = false) {i j : Nat} (h1 : i < xs.length) (h : lt (xs.getD i d) (xs.getD j d) = true) : rkG lt xs d i < rkG lt xs d j := by
  refine countP_lt (x := xs.getD i d) (fun y hy => tr _ _ _ hy h) ?_ (irr _) h
  rw [List.getD_eq_getElem?_getD, List.getElem?_eq_getElem h1]
  exact List.getElem_mem h1
theorem rkG_iff {α : Type} {lt : α → α → Bool} {xs : List α} {d : α} (tr : ∀ a b c, lt a b = true → lt b c = true → lt a c = true) (irr : ∀ a, lt a a = false) (tot : ∀ i j, i < xs.length → j < xs.length → i ≠ j → lt (xs.getD i d) (xs.getD j d) = false → lt (xs.getD j d) (xs.getD i d) = true) {i j : Nat} (h1 : i < xs.length) (h2 : j < xs.length) (ne : i ≠ j) : decide (rkG lt xs d i < rkG lt xs d j) = lt (xs.getD i d) (xs.getD j d) := by
  cases c : lt (xs.getD i d) (xs.getD j d) with
  | true => exact decide_eq_true (rkG_lt tr irr h1 c)
  | false =>
    have := rkG_lt tr irr h2 (tot i j h1 h2 ne c)
    exact decide_eq_false (by omega)
theorem rkG_inj {α : Type} {lt : α → α → Bool} {xs : List α} {d : α} (tr : ∀ a b c, lt a b = true → lt b c = true → lt a c = true) (irr : ∀ a, lt a a = false) (tot : ∀ i j, i < xs.length → j < xs.length → i ≠ j → lt (xs.getD i d) (xs.getD j d) = false → lt (xs.getD j d) (xs.getD i d) = true) : RkInj xs.length (rkG lt xs d) := fun i j h1 h2 e => by
  by_cases dn : i = j
  · exact dn
  · cases c : lt (xs.getD i d) (xs.getD j d) with
    | true => have := rkG_lt tr irr h1 c; omega
    | false => have := rkG_lt tr irr h2 (tot i j h1 h2 dn c); omega
abbrev TT3 := Addr × Str × Str × Int
def lt3 (a b : TT3) : Bool := HT.lexLtS [a.2.1, a.2.2.1] [b.2.1, b.2.2.1]
theorem lt3_iff (a b : TT3) : lt3 a b = true ↔ (a.2.1 ≠ b.2.1 ∧ keyL a.2.1 < keyL b.2.1) ∨ (a.2.1 = b.2.1 ∧ a.2.2.1 ≠ b.2.2.1 ∧ keyL a.2.2.1 < keyL b.2.2.1) := by
  unfold lt3
  rw [HT.lexLtS_cons]
  by_cases e : a.2.1 = b.2.1
  · rw [if_pos e, HT.lexLtS_cons]
    by_cases f : a.2.2.1 = b.2.2.1
    · rw [if_pos f, HT.lexLtS_nil_nil]
      simp [e, f]
    · rw [if_neg f]
      simp only [e, f, ne_eq, not_true_eq_false, false_and, not_false_eq_true, true_and, false_or, decide_eq_true_eq]
      exact Iff.rfl
  · rw [if_neg e]
    simp only [e, ne_eq, not_false_eq_true, true_and, false_and, or_false, decide_eq_true_eq]
    exact Iff.rfl
theorem lt3_trans (a b c : TT3) (h1 : lt3 a b = true) (h2 : lt3 b c = true) : lt3 a c = true := by
  rw [lt3_iff] at *
  have irr : ∀ x : Str, ¬ keyL x < keyL x := fun x => List.lt_irrefl _
  rcases h1 with ⟨n1, l1⟩ | ⟨e1, n1, l1⟩
  · rcases h2 with ⟨n2, l2⟩ | ⟨e2, n2, l2⟩
    · have t := List.lt_trans l1 l2
      exact .inl ⟨fun z => irr c.2.1 (by rw [z] at t; exact t), t⟩
    · rw [← e2]; exact .inl ⟨n1, l1⟩
  · rw [e1]
    rcases h2 with ⟨n2, l2⟩ | ⟨e2, n2, l2⟩
    · exact .inl ⟨n2, l2⟩
    · have t := List.lt_trans l1 l2
      exact .inr ⟨e2, fun z => irr c.2.2.1 (by rw [z] at t; exact t), t⟩
theorem lt3_irr (a : TT3) : lt3 a a = false := by
  cases c : lt3 a a with
  | false => rfl
  | true =>
    rw [lt3_iff] at c
    rcases c with ⟨h, _⟩ | ⟨_, h, _⟩ <;> exact absurd rfl h
theorem lt3_tot (a b : TT3) (ne : (a.2.1, a.2.2.1) ≠ (b.2.1, b.2.2.1)) (h : lt3 a b = false) : lt3 b a = true := by
  have h' : ¬ lt3 a b = true := by rw [h]; exact Bool.false_ne_true
  rw [lt3_iff] at h' ⊢
  have tri : ∀ a b : Str, a ≠ b → ¬ keyL a < keyL b → keyL b < keyL a := fun a b ne nl => by
    by_cases d : keyL b < keyL a
    · exact d
    · exact absurd (keyL_inj (List.le_antisymm (List.not_lt.mp d) (List.not_lt.mp nl))) ne
  by_cases e : a.2.1 = b.2.1
  · have n2 : a.2.2.1 ≠ b.2.2.1 := fun z => ne (by rw [e, z])
    exact .inr ⟨e.symm, fun z => n2 z.symm, tri _ _ n2 fun l => h' (.inr ⟨e, n2, l⟩)⟩
  · exact .inl ⟨fun z => e z.symm, tri _ _ e fun l => h' (.inl ⟨e, l⟩)⟩
theorem refs_of3 : ∀ {ps : List TT3} {its : List Value}, Vals (ps.map fun q => V.ref q.1) its → its = ps.map fun q => Value.ref q.1
  | [], _, .nil => rfl
  | _ :: _, _, .cons e r => by
    have e' := e
    cases e'
    rw [refs_of3 r]
    rfl
theorem katTups3 {h : Heap} : ∀ {ps : List TT3}, (∀ q ∈ ps, ∃ (o : Obj) (t1 t2 t3 : Tok) (n : Nat), h.get? q.1 = some o ∧ o.cls = .type "tuple" ∧ o.data = .seq #[.str q.2.1 t1, .str q.2.2.1 t2, .int q.2.2.2 t3] n) → ∃ fs : List Value, KatTups h (ps.map fun q => Value.ref q.1) fs ∧ fs.length = ps.length ∧ ∀ v ∈ fs, ∃ x t, v = Value.str x t
  | [], _ => ⟨[], KatTups.nil, rfl, fun _ z => by cases z⟩
  | q :: ps, hh => by
    obtain ⟨o, t1, t2, t3, n, e1, e2, e3⟩ := hh q List.mem_cons_self
    obtain ⟨fs, k, l, hv⟩ := katTups3 (ps := ps) fun x hx => hh x (List.mem_cons_of_mem _ hx)
    refine ⟨Value.str q.2.1 t1 :: fs, KatTups.cons e1 e2 e3 rfl k, by rw [List.length_cons, List.length_cons, l], fun v hv' => ?_⟩
    rcases List.mem_cons.mp hv' with rfl | hv'
    · exact ⟨_, _, rfl⟩
    · exact hv v hv'
section
variable {X : Cx}
theorem call_sortedD : CallR X (.builtin "sorted") (fun xs H Q => ∃ (p : Addr) (ps : List TT3), xs = [.ref p] ∧ SqL X.K H p (ps.map fun q => V.ref q.1) ∧ (∀ q ∈ ps, H q.1 = some (.tup [.str q.2.1, .str q.2.2.1, .int q.2.2.2])) ∧ (ps.map fun q => (q.2.1, q.2.2.1)).Nodup ∧ ps.length < 64 ∧
    ∀ (l : Addr) (qs : List TT3), H l = none → qs.Perm ps → qs.Pairwise (fun a b => lt3 a b = true) → Q (.ref l) (upd H l (.lst (qs.map fun q => V.ref q.1)))) := by
  intro pins s σ H xs us Q I r h
  obtain ⟨p, ps, rfl, hq, hT, nd, h64, q⟩ := h
  obtain ⟨u, rfl, rx⟩ := vals1 r
  cases rx
  obtain ⟨its, r', pl, hz⟩ := I.list hq
  have eI := refs_of3 r'
  subst eI
  have tot : ∀ i j, i < ps.length → j < ps.length → i ≠ j → lt3 (ps.getD i (0, Str.empty, Str.empty, 0)) (ps.getD j (0, Str.empty, Str.empty, 0)) = false → lt3 (ps.getD j (0, Str.empty, Str.empty, 0)) (ps.getD i (0, Str.empty, Str.empty, 0)) = true := fun i j hi hj ne => by
    refine lt3_tot _ _ fun e => ?_
    rw [List.getD_eq_getElem?_getD, List.getElem?_eq_getElem hi, List.getD_eq_getElem?_getD, List.getElem?_eq_getElem hj] at e
    have pw := List.pairwise_iff_getElem.mp nd
    have e' : (ps[i].2.1, ps[i].2.2.1) = (ps[j].2.1, ps[j].2.2.1) := e
    rcases Nat.lt_trichotomy i j with c | c | c
    · exact pw i j (by rw [List.length_map]; exact hi) (by rw [List.length_map]; exact hj) c (by rw [List.getElem_map, List.getElem_map]; exact e')
    · exact ne c
    · exact pw j i (by rw [List.length_map]; exact hj) (by rw [List.length_map]; exact hi) c (by rw [List.getElem_map, List.getElem_map]; exact e'.symm)
  have lI : (ps.map fun q => Value.ref q.1).length = ps.length := List.length_map _
  refine Calls.call_function_entry kind_sorted plain_sorted entry_sorted (args_sorted1 _) ?_
  unfold Builtin.«sorted»
  refine wpAny_bind (m := checkCount "sorted" 1 1 _) (wpAny_pure ?_)
  refine wpAny_bind (collect_list pl.isList ?_)
  refine wpAny_bind (wpAny_newList ?_)
  generalize hvs : (ps.map fun q => Value.ref q.1) = vs at lI
  have hsz : ((s.heap.push (seqObj "list" #[] 0)).update s.heap.objs.size (Obj.mapSeq (· ++ vs.toArray))).objs.size = s.heap.objs.size + 1 := by
    rw [Heap.size_update, size_push']
  have hoL : (((s.heap.push (seqObj "list" #[] 0)).update s.heap.objs.size (Obj.mapSeq (· ++ vs.toArray))).push (seqObj "list" vs.toArray 0)).get? (s.heap.objs.size + 1) = some (seqObj "list" vs.toArray 0) := by
    rw [← hsz]; exact Heap.get?_push_size _ rfl
  show wpAny _ _ _ _ _ { s with heap := ((s.heap.push (seqObj "list" #[] 0)).update s.heap.objs.size (Obj.mapSeq (· ++ vs.toArray))).push (seqObj "list" vs.toArray 0) }
  rw [hsz]
  have inj : RkInj vs.length (rkG lt3 ps (0, Str.empty, Str.empty, 0)) := lI ▸ rkG_inj lt3_trans lt3_irr tot
  refine wpAny_bind (wpAny_holding (wpAny_call_entry slot_list_sort ⟨_, hoL, rfl⟩ entry_list_sort (list_sort_rk (rk := rkG lt3 ps (0, Str.empty, Str.empty, 0)) hoL (by omega) inj (fun h2 => ?_) fun qa hq hs => ⟨_, rfl, ?_⟩) (args_list_sort _)))
  · have tupAt : ∀ q ∈ ps, ∃ (o : Obj) (t1 t2 t3 : Tok) (n : Nat), s.heap.get? q.1 = some o ∧ o.cls = .type "tuple" ∧ o.data = .seq #[.str q.2.1 t1, .str q.2.2.1 t2, .int q.2.2.2 t3] n := fun q hq => by
      obtain ⟨us, ru, ⟨o, e1, e2, n, e3⟩, _⟩ := I.tuple (.inl (.inl (hT q hq)))
      obtain ⟨u1, u2, u3, rfl, r1, r2, r3⟩ : ∃ u1 u2 u3, us = [u1, u2, u3] ∧ RelV (.str q.2.1) u1 ∧ RelV (.str q.2.2.1) u2 ∧ RelV (.int q.2.2.2) u3 := by
        cases ru with
        | cons a b => cases b with
          | cons c d => cases d with
            | cons e f => cases f; exact ⟨_, _, _, rfl, a, c, e⟩
      obtain ⟨t1, rfl⟩ := r1
      obtain ⟨t2, rfl⟩ := r2
      obtain ⟨t3, rfl⟩ := r3
      exact ⟨o, t1, t2, t3, n, e1, e2, e3⟩
    have stay : ∀ a ob, s.heap.get? a = some ob → (midHeap (((s.heap.push (seqObj "list" #[] 0)).update s.heap.objs.size (Obj.mapSeq (· ++ vs.toArray))).push (seqObj "list" vs.toArray 0)) (s.heap.objs.size + 1) vs).get? a = some ob := fun a ob e => by
      have la := Heap.lt_size e
      rw [midHeap_old (Nat.ne_of_lt (Nat.lt_succ_of_lt la)) (by rw [size_push', Heap.size_update, size_push']; exact Nat.lt_succ_of_lt (Nat.lt_succ_of_lt la)), Heap.get?_push_ne _ _ _ (by rw [Heap.size_update, size_push']; exact Nat.ne_of_lt (Nat.lt_succ_of_lt la)), Heap.get?_update_ne _ _ _ _ (Nat.ne_of_lt la)]
      exact Heap.get?_push_of_some _ e
    have tupM : ∀ q ∈ ps, ∃ (o : Obj) (t1 t2 t3 : Tok) (n : Nat), (midHeap (((s.heap.push (seqObj "list" #[] 0)).update s.heap.objs.size (Obj.mapSeq (· ++ vs.toArray))).push (seqObj "list" vs.toArray 0)) (s.heap.objs.size + 1) vs).get? q.1 = some o ∧ o.cls = .type "tuple" ∧ o.data = .seq #[.str q.2.1 t1, .str q.2.2.1 t2, .int q.2.2.2 t3] n := fun q hq => by
      obtain ⟨o, t1, t2, t3, n, e1, e2, e3⟩ := tupAt q hq
      exact ⟨o, t1, t2, t3, n, stay _ _ e1, e2, e3⟩
    obtain ⟨fs, kt, lf, hv⟩ := katTups3 tupM
    rw [hvs] at kt
    refine kat_kind (fs := fs) (T := Value.type "str") kt (by omega) (fun v hv' => ?_) (by decide) ⟨rfl, fun i j C hi hj dn hC => ?_⟩
    · obtain ⟨x, t, rfl⟩ := hv v hv'
      exact Looks.of_pure rfl
    · have hi2 : i < ps.length := by omega
      have hj2 : j < ps.length := by omega
      rw [rkG_iff lt3_trans lt3_irr tot hi2 hj2 dn, List.getD_eq_getElem?_getD, List.getElem?_eq_getElem hi2, List.getD_eq_getElem?_getD, List.getElem?_eq_getElem hj2] at hC
      have nij := tot i j hi2 hj2 dn
      obtain ⟨oi, i1, i2, i3, ni, gi, _, di⟩ := tupM ps[i] (List.getElem_mem hi2)
      obtain ⟨oj, j1, j2, j3, nj, gj, _, dj⟩ := tupM ps[j] (List.getElem_mem hj2)
      have vi : vs.getD i Value.none = Value.ref ps[i].1 := by rw [← hvs, List.getD_eq_getElem?_getD, List.getElem?_map, List.getElem?_eq_getElem hi2]; rfl
      have vj : vs.getD j Value.none = Value.ref ps[j].1 := by rw [← hvs, List.getD_eq_getElem?_getD, List.getElem?_map, List.getElem?_eq_getElem hj2]; rfl
      show wpAny _ _ (keyLt' _ (vs.getD i Value.none) (vs.getD j Value.none)) C _ _
      rw [vi, vj]
      refine kat_lt gi di gj dj ?_
      show KatLex _ _ _ _ _ _ [(Value.str ps[i].2.1 i1, Value.str ps[j].2.1 j1), (Value.str ps[i].2.2.1 i2, Value.str ps[j].2.2.1 j2), (Value.int ps[i].2.2.2 i3, Value.int ps[j].2.2.2 j3)] 0 _
      have ne2 : ps[i].2.1 = ps[j].2.1 → ps[i].2.2.1 ≠ ps[j].2.2.1 := fun e f => by
        have pw := List.pairwise_iff_getElem.mp nd
        have e' : (ps[i].2.1, ps[i].2.2.1) = (ps[j].2.1, ps[j].2.2.1) := by rw [e, f]
        rcases Nat.lt_trichotomy i j with c | c | c
        · exact pw i j (by rw [List.length_map]; exact hi2) (by rw [List.length_map]; exact hj2) c (by rw [List.getElem_map, List.getElem_map]; exact e')
        · exact dn c
        · exact pw j i (by rw [List.length_map]; exact hj2) (by rw [List.length_map]; exact hi2) c (by rw [List.getElem_map, List.getElem_map]; exact e'.symm)
      have hC' : C (HT.lexLtS [ps[i].2.1, ps[i].2.2.1] [ps[j].2.1, ps[j].2.2.1]) _ := hC
      refine kat_cons (wpAny_eqBool_str ?_)
      by_cases e : ps[i].2.1 = ps[j].2.1
      · rw [decide_eq_true e]
        rw [HT.lexLtS_cons, if_pos e, HT.lexLtS_cons, if_neg (ne2 e)] at hC'
        refine kat_yes (kat_cons (wpAny_eqBool_str ?_))
        rw [decide_eq_false (ne2 e)]
        refine kat_no ?_
        show wpAny _ _ (oneLt' false _ _) _ _ _
        refine kat_one _ _ (lt_str hC')
      · rw [decide_eq_false e]
        rw [HT.lexLtS_cons, if_neg e] at hC'
        refine kat_no ?_
        show wpAny _ _ (oneLt' true _ _) _ _ _
        exact oneLt_str hC'
  · have mem : ∀ i ∈ qa.toList, i < ps.length := fun i m => by
      have := List.mem_range.mp (hq.mem_iff.mp m)
      omega
    obtain ⟨e, he⟩ := sortedAll_at s.heap vs (outOf vs qa).toArray
    refine wpAny_pure ⟨_, rfl, .ref (s.heap.objs.size + 1), _, I.laid (t' := s.toks) (fun b o e => sortedAll_old e) (Nat.le_succ _) (show ObjOk X.prog X.w _ _ _ (.lst ((qa.toList.map fun i => ps.getD i (0, Str.empty, Str.empty, 0)).map fun q => V.ref q.1)) from ⟨?_, outOf vs qa, e, ?_, he⟩), rfl, q _ (qa.toList.map fun i => ps.getD i (0, Str.empty, Str.empty, 0)) (I.hok.fresh (Nat.le_succ _)) ?_ ?_⟩
    · rw [List.length_map, List.length_map, Array.length_toList, hq.size, sizeLine_eq]
      omega
    · rw [List.map_map]
      refine paired_map2 _ fun i m => ?_
      show vs.getD i Value.none = Value.ref (ps.getD i (0, Str.empty, Str.empty, 0)).1
      rw [← hvs, List.getD_eq_getElem?_getD, List.getElem?_map, List.getElem?_eq_getElem (mem i m), List.getD_eq_getElem?_getD, List.getElem?_eq_getElem (mem i m)]
      rfl
    · have e : (List.range vs.length).map (fun i => ps.getD i (0, Str.empty, Str.empty, 0)) = ps := by
        apply List.ext_getElem
        · simp [lI]
        · intro i h1 h2
          simp [h2]
      exact (hq.map _).trans (by rw [e])
    · refine List.pairwise_iff_getElem.mpr fun i j h1 h2 hij => ?_
      have n1 : i < vs.length := by rw [List.length_map, Array.length_toList, hq.size] at h1; exact h1
      have n2 : j < vs.length := by rw [List.length_map, Array.length_toList, hq.size] at h2; exact h2
      have le := hs i j (Nat.le_of_lt hij) n2
      have ne : gk (rkG lt3 ps (0, Str.empty, Str.empty, 0)) qa i ≠ gk (rkG lt3 ps (0, Str.empty, Str.empty, 0)) qa j := fun e => Nat.ne_of_lt hij (hq.ne inj n1 n2 e)
      have lt : rkG lt3 ps (0, Str.empty, Str.empty, 0) (qa.getD i 0) < rkG lt3 ps (0, Str.empty, Str.empty, 0) (qa.getD j 0) := Nat.lt_of_le_of_ne le ne
      have m1 : qa.getD i 0 < ps.length := by rw [← lI]; exact hq.lt n1
      have m2 : qa.getD j 0 < ps.length := by rw [← lI]; exact hq.lt n2
      have lt2 := rkG_iff lt3_trans lt3_irr tot m1 m2 (hq.dif n1 n2 (Nat.ne_of_lt hij))
      rw [decide_eq_true lt] at lt2
      have z1 : i < qa.size := by rw [hq.size]; exact n1
      have z2 : j < qa.size := by rw [hq.size]; exact n2
      rw [List.getElem_map, List.getElem_map, Array.getElem_toList, Array.getElem_toList, ← getD_get z1, ← getD_get z2]
      exact lt2.symm
end
end L2
namespace L2
open PySem PySem.W PyProof.Rows
theorem is_kV {P : Program} {w : World} {k : Key} {u : Value} (h : (mixKind P w).is k u = true) : RelV (kV k) u := by
  cases k with
  | inl i => exact Value.isInt_shape h
  | inr x => exact Value.isStrOf_shape h
def ItD (d : Addr) (ob : Obj) (kvs : List (Key × V)) : It := ⟨fun i H => i < kvs.length ∧ H d = some (.frz ob (.dK kvs)), fun i H x H' => H' = H ∧ ∃ k v, kvs[i]? = some (k, v) ∧ x = kV k, fun i H => kvs.length ≤ i ∧ H d = some (.frz ob (.dK kvs))⟩
def iDict (tl : TE) : TI := fun σ H R => tl σ H fun x H1 => ∃ (d : Addr) (kvs : List (Key × V)), x = .ref d ∧ H1 d = some (.dK kvs) ∧ ∀ ob, R (ItD d ob kvs) (upd H1 d (.frz ob (.dK kvs)))
theorem turn_dict {P : Program} {w : World} {K : PySem.W.Frag} {tg : Expr} {it d : Addr} {ob : Obj} {kvs : List (Key × V)} {vs : List (Key × Value)} {ep : Nat} (rel : KV kvs vs) (da : ∀ h : Heap, h.get? d = some ob → h.DictAt (mixKind P w) d vs ep) :
    Turn P w K tg (ItD d ob kvs) [it] it (fun i h => h.IsKeyIter it d i vs.length ep) where
  mem := by simp
  obj := fun i h st b hb => by
    have e : b = it := by simpa using hb
    subst e
    obtain ⟨o, e, c, d⟩ := st
    exact ⟨o, e, fun v z => by rw [d] at z; cases z⟩
  keep := fun i h h' st k => st.at fun o e => k it (by simp) o e
  item := by
    intro X hP hw hK hc i pins s σ H E I hf st hg
    subst hP hw hK
    have hgo := (show ObjOk X.prog X.w H s.heap d (.frz ob (.dK kvs)) from I.hok d _ hg.2)
    have hgi : i < kvs.length := hg.1
    obtain ⟨f0, f1, f2, f3, f4, f5⟩ := hf it (by simp)
    obtain ⟨b, eb, e5, e6⟩ := paired_get rel (List.getElem?_eq_getElem hgi)
    refine wpAny_pyNext_dict_item (k := b.1) (v := b.2) st (da _ hgo.1) eb fun key h' hkey st' sb => ?_
    have I1 : Inv X pins σ H { s with heap := h' } := I.turned (t' := s.toks) (fun b o hb e => (sb.2 b hb).trans e) f0 f1 f3 f4 f5
    obtain ⟨o, e, c, d⟩ := id st'
    have rk : RelV (kV kvs[i].1) key := by rw [e5]; exact is_kV hkey
    exact ⟨key, rfl, go_of (s := { s with heap := h' }) e c d (by decide) ⟨kV kvs[i].1, H, I1, rk, ⟨rfl, _, _, List.getElem?_eq_getElem hgi, rfl⟩, st', fun b hb => (hf b hb).1⟩⟩
  done := by
    intro X hP hw hK hc i pins s σ H E I hf st hg
    subst hP hw hK
    have hgo := (show ObjOk X.prog X.w H s.heap d (.frz ob (.dK kvs)) from I.hok d _ hg.2)
    obtain ⟨f0, f1, f2, f3, f4, f5⟩ := hf it (by simp)
    have hl : kvs.length = vs.length := paired_len rel
    have h1 := hg.1
    exact wpAny_pyNext_dict_end (I.ok.hd hc) st (da _ hgo.1) (List.getElem?_eq_none (by omega)) fun h' eb => ⟨rfl, I.turned (t' := s.toks) (fun b o hb e => eb b o hb e) f0 f1 f3 f4 f5⟩
  self := fun _ _ _ _ _ st h => wpAny_pyIter_keyiter st h
section
variable {X : Cx} {tg : Expr}
theorem pi_dict {l : Expr} {tl : TE} (hl : PE X l tl) : PI X tg l (iDict tl) := by
  intro pins s σ H R I h
  refine thn (hl pins s σ H _ I h) fun v s1 ⟨x, H1, I1, r1, q1⟩ => ?_
  obtain ⟨d, kvs, e, ed, q⟩ := q1
  subst e
  cases r1
  obtain ⟨hsz, hd, vs, rel, dd⟩ := dk_of I1.hok ed
  obtain ⟨ep, da⟩ := dd.dictAt
  obtain ⟨ob, es, ho, h2, h3, h4, h5, h6⟩ := id da
  have I2 : Inv X pins σ (upd H1 d (.frz ob (.dK kvs))) s1 := I1.write (x := d) (e := d) (h' := s1.heap) (t' := s1.toks) (by rw [ed]; exact True.intro) (.inl rfl) (fun b u _ q => q) ⟨ob, ho⟩ ⟨ho, hsz, hd, vs, rel, dd⟩
  refine wpAny_pyIter_dict hd da ?_
  refine ⟨s1.heap.objs.size, [s1.heap.objs.size], _, _, _, rfl, I2.kept (t' := s1.toks) fun b o e => Heap.get?_push_of_some _ e, turn_dict (ob := ob) (vs := vs) (ep := ep) rel (fun h e => ⟨ob, es, e, h2, h3, h4, h5, h6⟩), ⟨_, Heap.get?_push_size _ rfl, rfl, rfl⟩, fun b hb => ?_, q ob⟩
  have e : b = s1.heap.objs.size := by simpa using hb
  subst e
  exact I2.fpOk (Nat.le_refl _) (I2.hok.fresh (Nat.le_refl _))
end
theorem for_dict {d : Addr} {ob : Obj} {kvs : List (Key × V)} {g : TG} {tb : TS} {D : Ends} {σ : St} {H : Hp} (Pv : Nat → St → Hp → Prop) (h0 : Pv 0 σ H) (hf : ∀ i σ H, Pv i σ H → H d = some (.frz ob (.dK kvs)))
    (hs : ∀ i k v σ H, kvs[i]? = some (k, v) → Pv i σ H → g (kV k) σ H fun σ2 H2 => tb { D with nx := Pv (i + 1), ct := Pv (i + 1), bk := D.nx } σ2 H2) (hd : ∀ σ H, Pv kvs.length σ H → D.nx σ H) :
    ∃ W : Nat → Nat → St → Hp → Prop, (∃ m, W 0 m σ H) ∧ ∀ i m σ H, W i m σ H →
      ((ItD d ob kvs).stop i H ∧ D.nx σ H) ∨ ((ItD d ob kvs).go i H ∧ ∃ N : St → Hp → Prop, (∀ σ' H', N σ' H' → ∃ m', m' < m ∧ W (i + 1) m' σ' H') ∧ ∀ x H', (ItD d ob kvs).yld i H x H' → g x σ H' fun σ2 H2 => tb { D with nx := N, ct := N, bk := D.nx } σ2 H2) := by
  refine ⟨fun i m σ H => m = kvs.length - i ∧ i ≤ kvs.length ∧ Pv i σ H, ⟨kvs.length, by simp, Nat.zero_le _, h0⟩, ?_⟩
  rintro i m σ H ⟨rfl, hi, p⟩
  by_cases hlt : i < kvs.length
  · refine .inr ⟨⟨hlt, hf i σ H p⟩, Pv (i + 1), fun σ' H' p' => ⟨kvs.length - (i + 1), by omega, rfl, hlt, p'⟩, fun x H' y => ?_⟩
    obtain ⟨e, k, v, e1, e2⟩ := y
    subst e e2
    exact hs i k v σ _ e1 p
  · have e : i = kvs.length := by omega
    subst e
    exact .inl ⟨⟨Nat.le_refl _, hf _ σ H p⟩, hd σ H p⟩
section
variable {prog : Program} {w : World} {A : Around} {E : Value → Shared → Prop} {s : Shared}
theorem collect_dict {d : Addr} {kvs : List (Key × Value)} {ep : Nat} {Q : List Value → Shared → Prop} (hh : A.handled = none) (hd : (d == sysModules) = false) (hm : s.heap.DictAt (mixKind prog w) d kvs ep) (hn : kvs.length ≤ sizeLine)
    (h : ∀ (h' : Heap) (tk : Nat) (vs : List Value), (∀ b o, s.heap.get? b = some o → h'.get? b = some o) → s.heap.objs.size < h'.objs.size → vs.length = kvs.length → (∀ (j : Nat) (v : Value), vs[j]? = some v → ∃ k x, kvs[j]? = some (k, x) ∧ (mixKind prog w).is k v = true) → Q vs { s with heap := h', toks := tk }) :
    wpAny (model prog w) A (collect (.ref d)) Q E s := by
  have hlt : d < s.heap.objs.size := hm.lt_size
  have src := kdl_dict (prog := prog) (w := w) (knd := mixKind prog w) (kvs := kvs) (ep := ep) hd
  unfold collect
  refine wpAny_bind (wpAny_runValue (codeAny_builtin entry_proto_collect' ?_))
  rw [Around.under_plainId PySem.F.plain_proto_collect _]
  show wpAny _ A.in1 (newList [] >>= fun l => again (.builtin "list.__iadd__" ⟨[l, .ref d], []⟩)) _ _ s
  refine wpAny_bind (wpAny_newObj_type ?_)
  refine wpAny_pure ⟨plainId_quiet PySem.F.plain_list_iadd _, codeAny_builtin entry_list_iadd' ?_⟩
  rw [Around.under_plainId PySem.F.plain_list_iadd _]
  have hS₁ : (s.heap.push { cls := .type "list", data := .seq ([] : List Value).toArray }).get? s.heap.objs.size = some { cls := .type "list", data := .seq #[] } := Heap.get?_push_size _ rfl
  show wpAny _ A.in1 (Builtin.List.listExtendWith (.ref s.heap.objs.size) (.ref d) (.ref s.heap.objs.size)) _ _ _
  have key := kdl_extend (A := A) (s := { s with heap := s.heap.push { cls := .type "list", data := .seq ([] : List Value).toArray } }) src
    (R := fun (q : Result) (s' : Shared) => ∃ (h' : Heap) (tk : Nat) (acc' : Array Value) (c' : Nat), q = .ok (.ret (.ref s.heap.objs.size)) ∧ s' = { s with heap := h', toks := tk } ∧
      (∀ b o, s.heap.get? b = some o → h'.get? b = some o) ∧ h'.get? s.heap.objs.size = some { cls := .type "list", dict := none, data := .seq acc' c', slots := #[] } ∧ ItemsOf (fun i v => ∃ k x, kvs[i]? = some (k, x) ∧ (mixKind prog w).is k v = true) acc' kvs.length)
    hh (hm.push _) s.heap.objs.size (Nat.ne_of_gt hlt) (Nat.ne_of_gt hlt) (.ref s.heap.objs.size) 0 hS₁
    (fun h' tk acc' c' hk hS' hacc => ⟨h', tk, acc', c', rfl, rfl, fun b o e => hk b o (Nat.ne_of_lt (Heap.lt_size e)) (Heap.get?_push_of_some _ e), hS', hacc⟩) hn
  have fin : ∀ (h' : Heap) (tk : Nat) (acc' : Array Value) (c' : Nat), (∀ b o, s.heap.get? b = some o → h'.get? b = some o) → h'.get? s.heap.objs.size = some { cls := .type "list", dict := none, data := .seq acc' c', slots := #[] } → ItemsOf (fun i v => ∃ k x, kvs[i]? = some (k, x) ∧ (mixKind prog w).is k v = true) acc' kvs.length → Q acc'.toList { s with heap := h', toks := tk } := fun h' tk acc' c' hk hS' hacc =>
    h h' tk acc'.toList hk (Heap.lt_size hS') (by rw [Array.length_toList]; exact hacc.1) fun j v e => hacc.2 j v (by rw [← Array.getElem?_toList]; exact e)
  refine wpAny_mono key (fun fin' s' x => ?_) fun e s' x => ?_
  · cases fin' with
    | done f =>
      obtain ⟨h', tk, acc', c', e, rfl, hk, hS', hacc⟩ := x
      cases e
      show wpAny _ A (load s.heap.objs.size >>= _) _ _ _
      refine wpAny_bind (wpAny_load hS' ?_)
      exact wpAny_pure (fin h' tk acc' c' hk hS' hacc)
    | again c₁ =>
      refine ⟨x.1, codeAny_mono x.2 fun q s₂ y => ?_⟩
      obtain ⟨h', tk, acc', c', rfl, rfl, hk, hS', hacc⟩ := y
      show wpAny _ A (load s.heap.objs.size >>= _) _ _ _
      refine wpAny_bind (wpAny_load hS' ?_)
      exact wpAny_pure (fin h' tk acc' c' hk hS' hacc)
  · obtain ⟨_, _, _, _, e', _⟩ := x
    cases e'
end
theorem strs_at {n : Nat} : ∀ {ps : List (Str × V)} {vs : List Value}, vs.length = ps.length → (∀ (j : Nat) (v : Value) (p : Str × V), vs[j]? = some v → ps[j]? = some p → ∃ t, v = Value.str p.1 t) → StrsAre vs (ps.map (·.1))
  | [], [], _, _ => .nil
  | [], _ :: _, h, _ => by cases h
  | _ :: _, [], h, _ => by cases h
  | p :: ps, v :: vs, h, hv => by
    obtain ⟨t, rfl⟩ := hv 0 v p rfl rfl
    exact .cons p.1 t (strs_at (n := n) (by simpa using h) fun j v q e1 e2 => hv (j + 1) v q e1 e2)
section
variable {X : Cx}
theorem call_sortedK (hc : X.calm = true) : CallR X (.builtin "sorted") (fun xs H Q => ∃ (d : Addr) (ps : List (Str × V)), xs = [.ref d] ∧ H d = some (.dK (ps.map fun p => (Sum.inr p.1, p.2))) ∧ ps.length < 64 ∧ ∀ (l : Addr) (ms : List Str), H l = none → ms.Perm (ps.map (·.1)) → ms.Pairwise (fun a b => keyL a < keyL b) → Q (.ref l) (upd H l (.lst (ms.map V.str)))) := by
  intro pins s σ H xs us Q I r h
  obtain ⟨d, ps, rfl, ed, h64, q⟩ := h
  obtain ⟨u, rfl, rx⟩ := vals1 r
  cases rx
  obtain ⟨hsz, hd, vs, rel, dd⟩ := dk_of I.hok ed
  have ndK : (vs.map (·.1)).Nodup := by obtain ⟨_, _, _, _, _, _, _, _, z⟩ := dd; exact z
  have nd : (ps.map (·.1)).Nodup := by
    have ek : vs.map (·.1) = (ps.map (·.1)).map (Sum.inr : Str → Key) := by
      rw [← KV.keys rel, List.map_map, List.map_map]
      rfl
    rw [ek] at ndK
    exact (List.pairwise_map.mp ndK).imp fun {a b} z e => z (by rw [e])
  obtain ⟨ep, da⟩ := dd.dictAt
  have lv : vs.length = ps.length := by rw [← paired_len rel, List.length_map]
  refine Calls.call_function_entry kind_sorted plain_sorted entry_sorted (args_sorted1 _) ?_
  unfold Builtin.«sorted»
  refine wpAny_bind (m := checkCount "sorted" 1 1 _) (wpAny_pure ?_)
  refine wpAny_bind (collect_dict (A := X.A.in1) (I.ok.hd hc) hd da (by rw [lv, sizeLine_eq]; omega) fun h' tk ws hk hlt hl hw => ?_)
  have hlp : ws.length = ps.length := hl.trans lv
  have hS : StrsAre ws (ps.map (·.1)) := strs_at (n := 0) hlp fun j v p e1 e2 => by
    obtain ⟨k, x, e3, e4⟩ := hw j v e1
    obtain ⟨b, e5, e6, _⟩ := paired_get rel (show (ps.map fun p => ((Sum.inr p.1 : Key), p.2))[j]? = some (Sum.inr p.1, p.2) by rw [List.getElem?_map, e2]; rfl)
    rw [e3] at e5
    cases e5
    have e6' : (Sum.inr p.1 : Key) = k := e6
    subst e6'
    exact Value.isStrOf_shape (x := p.1) (v := v) e4
  refine wpAny_bind (wpAny_newList ?_ (by rw [hlp, sizeLine_eq]; omega))
  have hoL : (h'.push (seqObj "list" ws.toArray 0)).get? h'.objs.size = some (seqObj "list" ws.toArray 0) := Heap.get?_push_size _ rfl
  refine wpAny_bind (wpAny_holding (wpAny_call_entry slot_list_sort ⟨_, hoL, rfl⟩ entry_list_sort (list_sort_treeK strKind_oneLt hoL hS.keysOf (fun v₁ v₂ rest e => keyKind_strs (by rw [← e]; exact hS)) (by omega) fun st' hp hs => ⟨_, rfl, ?_⟩) (args_list_sort _)))
  obtain ⟨ms, a1, a2, a3⟩ := sorted_out_str hS hp hs
  obtain ⟨ee, he2⟩ := sortedHeap_at (vs := ws) (out := (arrOf st').map (·.2)) hoL
  have old : ∀ b ob, h'.get? b = some ob → (sortedHeap (h'.push (seqObj "list" ws.toArray 0)) h'.objs.size ws ((arrOf st').map (·.2))).get? b = some ob := fun b ob e => by
    have lb := Heap.lt_size e
    rw [sortedHeap_old (Nat.ne_of_lt lb) (by rw [size_push']; exact Nat.lt_succ_of_lt lb)]
    exact Heap.get?_push_of_some _ e
  have lm : ms.length = ps.length := by rw [a2.length_eq, List.length_map]
  have ndm : ms.Nodup := a2.nodup_iff.mpr nd
  refine wpAny_pure ⟨_, rfl, .ref h'.objs.size, _, I.laid (t' := tk) (fun b o e => old b o (hk b o e)) (Nat.le_of_lt hlt) (show ObjOk X.prog X.w _ _ _ (.lst (ms.map V.str)) from ⟨?_, ((arrOf st').map (·.2)).toList, ee, strs_back a1, he2⟩), rfl, q _ ms (I.hok.fresh (Nat.le_of_lt hlt)) a2 ?_⟩
  · rw [List.length_map, lm, sizeLine_eq]
    omega
  · refine ((sortedS_pw a3).and ndm).imp fun {a b} z => ?_
    by_cases c : keyL a < keyL b
    · exact c
    · exact absurd (keyL_inj (List.le_antisymm (List.not_lt.mp z.1) (List.not_lt.mp c))) z.2
end
section
variable {X : Cx}
end
end L2
namespace L2
open PySem PySem.Spec PyProof.Rows
section
variable {prog : Program} {w : World} {A : Around} {E : Value → Shared → Prop} {s : Shared}
theorem sdf_pairs {a : Addr} {ps : List (Key × Value)} {k : Key} {kv dv : Value} {Q : Value → Shared → Prop} (hkv : (mixKind prog w).is k kv = true) (dd : s.heap.DictOf (mixKind prog w) a ps) (small : ps.length ≤ sizeLine)
    (there : ∀ x, valueAt ps k = some x → Q x { s with toks := s.toks + 1 })
    (new : valueAt ps k = none → ∀ h', h'.DictOf (mixKind prog w) a (ps ++ [(k, dv)]) → Heap.SameBut a s.heap h' → Q dv { s with heap := h', toks := s.toks + 1 }) : wpAny (model prog w) A (dictSetDefault a kv dv) Q E s := by
  cases c : valueAt ps k with
  | some x =>
    refine wpAny_dictSetDefault_of hkv dd.mapOf (fun v hv => there v hv) (fun z => ?_) ?_
    · rw [c] at z; cases z
    · obtain ⟨ob, ents, epo, e1, e2, e3, e4, e5, e6⟩ := dd
      intro o2 es2 ep2 f1 f2
      rw [e1] at f1
      cases f1
      rw [e3] at f2
      cases f2
      have n1 := e5.length
      have n2 : ents.toList.length = ents.size := by simp
      omega
  | none =>
    obtain ⟨ob, ents, epo, e1, e2, e3, e4, e5, e6⟩ := dd
    have small2 : ents.size ≤ sizeLine := by
      have n1 := e5.length
      have n2 : ents.toList.length = ents.size := by simp
      omega
    have nin : k ∉ ps.map (·.1) := fun z => by
      obtain ⟨q, hq, eq⟩ := List.mem_map.mp z
      have eq' : q.1 = k := eq
      unfold valueAt at c
      have := List.find?_eq_none.mp (Option.map_eq_none_iff.mp c) q hq
      exact this (decide_eq_true eq')
    have nidx : (ents.findIdx? fun e => (mixKind prog w).is k e.key) = none := by
      have g : (ps.findIdx? fun kv => decide (kv.1 = k)) = none := List.findIdx?_eq_none_iff.mpr fun q hq => decide_eq_false fun z => nin (List.mem_map.mpr ⟨q, hq, z⟩)
      rw [← g, ← e5.findIdx k]
      obtain ⟨l⟩ := ents
      simp
    unfold dictSetDefault
    refine wpAny_holding (wpAny_bind ((mixKind prog w).pyHash hkv (wpAny_bind (wpAny_dictFind_of (s := { s with toks := s.toks + 1 }) hkv e1 e3 e4 ?_))))
    rw [nidx]
    refine wpAny_bind (wpAny_rule (wpAny_bind (wpAny_updateDictKeys (hz := small2) (s := { s with toks := s.toks + 1 }) e1 e3 (wpAny_pure (new c _ ?_ (Heap.SameBut.update ..))))))
    refine ⟨_, _, epo + 1, Heap.get?_update_self _ e1 (Obj.isFreed_of_dict (Obj.data_mapDictKeys e3 _)), e2.mapDictKeys _, Obj.data_mapDictKeys e3 _, e4.push hkv _, ?_, ?_⟩
    · have := e5.append hkv ((mixKind prog w).hash k) dv
      obtain ⟨l⟩ := ents
      simpa using this
    · rw [List.map_append, List.nodup_append]
      refine ⟨e6, by simp, fun x hx y hy z => ?_⟩
      have hy' : y = k := by simpa using hy
      exact nin (by rw [← hy', ← z]; exact hx)
end
section
variable {X : Cx} {pins : List (Addr × Obj)} {σ : St} {H : Hp} {s : Shared} {a : Addr} {A : Around} {E : Value → Shared → Prop} {kvs : List (Key × V)} {k : Key} {d : V} {u r : Value}
theorem d_setDef {Q : Value → Shared → Prop} (I : Inv X pins σ H s) (e : H a = some (.dK kvs)) (ry : RelV (kV k) u) (rd : RelV d r) (l : kvs.length < sizeLine)
    (there : ∀ v, valV kvs k = some v → ∀ w' s', Inv X pins σ H s' → RelV v w' → Q w' s') (new : valV kvs k = none → ∀ s', Inv X pins σ (upd H a (.dK (kvs ++ [(k, d)]))) s' → Q r s') :
    wpAny (model X.prog X.w) A (call (.builtin "dict.setdefault") [.ref a, u, r]) Q E s := by
  obtain ⟨z, hd, vs, rel, dd⟩ := dk_of I.hok e
  have hz : vs.length ≤ sizeLine := by rw [← rel.length]; exact z
  have rv := rel.val k
  refine wpAny_call_entry PySem.F.slot_dict_setdefault dd.typeIs PySem.F.entry_dict_setdefault ?_ (PySem.F.args_dict_setdefault_3 _ _ _)
  unfold Builtin.«dict.setdefault»
  refine wpAny_bind ?_
  unfold Builtin.Dict.keyAndDefault
  refine wpAny_bind (wpAny_notOrdered_dict dd.typeIs ?_)
  show wpAny _ _ (pure (a, u, some r)) _ _ s
  refine wpAny_pure ?_
  show wpAny _ _ (if (a == sysModules) = true then _ else (dictSetDefault a u r >>= _)) _ _ s
  rw [if_neg (by rw [hd]; decide)]
  refine wpAny_bind (sdf_pairs (kV_is ry) dd hz (fun x hx => wpAny_pure ⟨x, rfl, ?_⟩) (fun hn h' dd' hs => wpAny_pure ⟨r, rfl, new ?_ _ ?_⟩))
  · rw [hx] at rv
    cases c : valV kvs k with
    | none => rw [c] at rv; exact rv.elim
    | some v =>
      rw [c] at rv
      exact there v c x _ (I.tok _) rv
  · rw [hn] at rv
    cases c : valV kvs k with
    | none => rfl
    | some v => rw [c] at rv; exact rv.elim
  · have hn2 : valV kvs k = none := by
      rw [hn] at rv
      cases c : valV kvs k with
      | none => rfl
      | some v => rw [c] at rv; exact rv.elim
    have he : ∃ q, h'.get? a = some q := let ⟨q, _, _, hq, _⟩ := dd'; ⟨q, hq⟩
    have rp := rel.put k rd
    rw [putK_new d hn2] at rp
    have es : stored vs k r = vs ++ [(k, r)] := by
      unfold stored
      rw [if_neg]
      intro z
      obtain ⟨q, hq, eq⟩ := List.any_eq_true.mp z
      unfold valueAt at hn
      exact List.find?_eq_none.mp (Option.map_eq_none_iff.mp hn) q hq eq
    rw [es] at rp
    exact d_write I (by rw [e]; exact True.intro) hs he (dk_new (by rw [List.length_append]; show _ + 1 ≤ _; omega) hd rp dd')
end
def tDSet (td ty tx : TE) : TE := fun σ H Q => td σ H fun x H1 => ∃ a, x = .ref a ∧ IsD H1 a ∧ ty σ H1 fun y H2 => tx σ H2 fun z H3 => ∃ kvs k, H3 a = some (.dK kvs) ∧ y = kV k ∧ kvs.length < sizeLine ∧
  (∀ v, valV kvs k = some v → Q v H3) ∧ (valV kvs k = none → Q z (upd H3 a (.dK (kvs ++ [(k, z)]))))
section
variable {X : Cx} {o e f : Expr} {apos cpos : Pos} {td ty tx : TE}
theorem pe_dsetdef (ho : PE X o td) (he : PE X e ty) (hf : PE X f tx) (m : M2 X o "setdefault" apos e f cpos) : PE X (.Call (.Attribute o "setdefault" apos) [e, f] [] cpos) (tDSet td ty tx) := by
  intro pins s σ H Q I h
  refine wpAny_Call_method m.base m.few m.line PySem.F.plainAttrs_dict PySem.F.slot_dict_setdefault PySem.F.type_dict_setdefault (thn (ho pins s σ H _ I h) fun u s1 ⟨x, H1, I1, rx, a, ex, d, q1⟩ => ?_)
  subst ex
  obtain rfl : u = Value.ref a := rx
  obtain ⟨t1, t2, _⟩ := isD_at I1 d
  refine ⟨t1, t2, ?_⟩
  rw [m.trees]
  refine Calls.callWith_builtin rfl (Calls.evalArgs_plain (Calls.spliced_cons (thn (he pins s1 σ H1 _ I1 q1) fun iv s2 ⟨y, H2, I2, ry, q2⟩ =>
    Calls.spliced_cons (thn (hf pins s2 σ H2 _ I2 q2) fun fv s3 ⟨z, H3, I3, rz, kvs, k, ea, ey, l, qa, qb⟩ => Calls.spliced_nil ?_))))
  subst ey
  exact d_setDef I3 ea ry rz l (fun v hv w' s4 I4 rw' => ⟨v, H3, I4, rw', qa v hv⟩) fun hn s4 I4 => ⟨z, _, I4, rz, qb hn⟩
end
end L2
namespace L2
open PySem PySem.Spec PyProof.Rows
theorem rev_nolen : typeLookup (.type "list_reverseiterator") "__len__" = pure none := by rw [typeLookup_type, builtinLookup_eq_fast]; kernel_rfl
theorem rev_hint : typeLookup (.type "list_reverseiterator") "__length_hint__" = pure (some (.builtin "list_reverseiterator.__length_hint__")) := by rw [typeLookup_type, builtinLookup_eq_fast]; kernel_rfl
section
variable {prog : Program} {w : World} {A : Around} {E : Value → Shared → Prop} {s : Shared}
theorem rev_extend {R : Result → Shared → Prop} (hh : A.handled = none) {S I l : Addr} {items : Array Value} (nlI : l ≠ I) (nSI : S ≠ I) (nSl : S ≠ l) {c₀ : Nat} {res : Value} (hit : s.heap.IsRevIter I l ((items.size : Int) - 1)) (hl : s.heap.IsList l items)
    (hS : s.heap.get? S = some { cls := .type "list", data := .seq #[] c₀ }) (hn : items.size ≤ sizeLine)
    (hR : ∀ h' tk acc' c', (∀ b o, b ≠ S → b ≠ I → s.heap.get? b = some o → h'.get? b = some o) → h'.get? S = some { cls := .type "list", dict := none, data := .seq acc' c', slots := #[] } → ItemsOf (fun i v => items[items.size - 1 - i]? = some v) acc' items.size → R (.ok (.ret res)) { s with heap := h', toks := tk }) :
    wpAny (model prog w) A.in1 (Builtin.List.listExtendWith (.ref S) (.ref I) res)
      (fun fin s' => match fin with | .done f => R (.ok f) s' | .again c' => c'.quiet = true ∧ codeAny (model prog w) A c' R s') (fun e s' => R (.error e) s') s := by
  have W := Walks.listRev (prog := prog) (w := w) (A := A.in1) hh I l nlI items
  have nS : S ∉ [I, l] := by simp only [List.mem_cons, List.not_mem_nil, or_false, not_or]; exact ⟨nSI, nSl⟩
  have st : 0 ≤ items.size ∧ s.heap.IsRevIter I l ((items.size : Int) - 1 - ((0 : Nat) : Int)) ∧ s.heap.IsList l items := ⟨Nat.zero_le _, by simpa using hit, hl⟩
  unfold Builtin.List.listExtendWith
  refine wpAny_bind (wpAny_typeOf hit.typeIs ?_)
  have h1 : Builtin.List.listSameRef (.ref S) (.ref I) = false := by simp [Builtin.List.listSameRef, nSI]
  rw [if_neg (by rw [h1]; decide)]
  refine wpAny_bind (wpAny_pyIter_revIter hit (wpAny_bind (wpAny_holding ?_)))
  unfold Builtin.List.listLengthHint
  refine wpAny_bind (wpAny_specialOf hit.typeIs rev_nolen ?_)
  show wpAny _ A.in1 (specialOf (Value.ref I) (Str.ofString "__length_hint__") >>= _) _ _ _
  refine wpAny_bind (wpAny_specialOf hit.typeIs rev_hint ?_)
  (generalize hid : ("list_reverseiterator.__length_hint__" : String) = id0; (fail_if_success (clear hid id0)); wp_delta; rw [show splitId id0 = some ("list_reverseiterator", "__length_hint__") from by subst hid; decide +kernel]; subst hid)
  refine wpAny_bind (wpAny_isInstance (b := true) hit.typeIs (by rw [isSubtype_type]; kernel_rfl) (wpAny_pure ?_))
  rw [if_neg (by decide)]
  refine wpAny_pure ⟨plainId_quiet PySem.F.plain_extend_loop _, codeAny_extend_loopS W.toS hn S nS res items.size 0 _ #[] c₀ rfl (Nat.zero_le _) st hS (ItemsOf.nil _) fun s' acc' c' hm hS' hacc => ?_⟩
  rw [Moved.eq_with hm]
  refine hR s'.heap s'.toks acc' c' (fun b o n1 n2 e => hm.heap b o (fun z => ?_) e) hS' hacc
  rcases List.mem_cons.mp z with z | z
  · exact n1 z
  · exact n2 (List.mem_singleton.mp z)
theorem call_list_rev {Q : Value → Shared → Prop} (hh : A.handled = none) {I l : Addr} {items : Array Value} (nlI : l ≠ I) (hit : s.heap.IsRevIter I l ((items.size : Int) - 1)) (hl : s.heap.IsList l items) (hn : items.size ≤ sizeLine)
    (hQ : ∀ h' tk acc' c', (∀ b o, b ≠ I → s.heap.get? b = some o → h'.get? b = some o) → h'.get? s.heap.objs.size = some { cls := .type "list", dict := none, data := .seq acc' c', slots := #[] } → ItemsOf (fun i v => items[items.size - 1 - i]? = some v) acc' items.size → Q (.ref s.heap.objs.size) { s with heap := h', toks := tk }) :
    wpAny (model prog w) A (call (.type "list") [.ref I]) Q E s := by
  refine callType_codes (Q₁ := fun obj s₁ => obj = .ref s.heap.objs.size ∧ s₁ = { s with heap := s.heap.push { cls := .type "list", data := .seq #[] } }) PySem.F.called_list (PySem.F.typeCall_list_1 _) PySem.F.entry_list_init (code_list_new _ ⟨rfl, rfl⟩) fun obj s₁ h₁ => ?_
  obtain ⟨rfl, rfl⟩ := h₁
  have ltI : I < s.heap.objs.size := by obtain ⟨o, ho, _⟩ := hit; exact Heap.lt_size ho
  have ltl : l < s.heap.objs.size := by obtain ⟨o, ho, _⟩ := hl; exact Heap.lt_size ho
  generalize hz : s.heap.objs.size = S at hQ ltI ltl ⊢
  have hS : (s.heap.push { cls := .type "list", data := .seq #[] }).get? S = some { cls := .type "list", data := .seq #[] } := by rw [← hz]; exact Heap.get?_push_size _ rfl
  refine ⟨⟨_, hS, rfl⟩, PySem.F.args_list_init_2 _ _, ?_⟩
  show wpAny _ _ (Builtin.List.listItems (.ref S) >>= fun old => Builtin.List.listUpdate (.ref S) (fun _ => #[]) >>= fun _ => letGo old.toList.reverse >>= fun _ => Builtin.List.listExtendWith (.ref S) (.ref I) .none) _ _ _
  refine wpAny_bind ?_
  unfold Builtin.List.listItems
  refine wpAny_bind (wpAny_seqItems hS rfl (wpAny_pure ?_))
  show wpAny _ _ (updateSeq S (fun _ => #[]) >>= fun _ => letGo (#[] : Array Value).toList.reverse >>= fun _ => Builtin.List.listExtendWith (.ref S) (.ref I) .none) _ _ _
  refine wpAny_bind (wpAny_updateSeq hS rfl ?_)
  have h2 := Heap.get?_update_self (Obj.mapSeq (fun _ => (#[] : Array Value))) hS rfl
  have kp : ∀ b o, b ≠ S → s.heap.get? b = some o → ((s.heap.push { cls := .type "list", data := .seq #[] }).update S (Obj.mapSeq (fun _ => (#[] : Array Value)))).get? b = some o := fun b o hb e => (Heap.get?_update_other _ _ (Ne.symm hb)).trans (Heap.get?_push_of_some _ e)
  refine wpAny_bind (wpAny_letGo ?_)
  refine rev_extend (A := A.in1) hh nlI (Nat.ne_of_gt ltI) (Nat.ne_of_gt ltl) (hit.at fun o e => kp I o (Nat.ne_of_lt ltI) e) (hl.at fun o e => kp l o (Nat.ne_of_lt ltl) e) h2 hn fun h' tk acc' c' hk hS' hacc => ?_
  refine ⟨rfl, hQ h' tk acc' c' (fun b o hb e => ?_) hS' hacc⟩
  have hbS : b ≠ S := by rw [← hz]; exact Nat.ne_of_lt (Heap.lt_size e)
  exact hk b o hbS hb (kp b o hbS e)
end
theorem paired_rev {α β : Type} {r : α → β → Prop} : ∀ {xs : List α} {ys : List β}, Paired r xs ys → Paired r xs.reverse ys.reverse := by
  intro xs ys h
  induction h with
  | nil => exact .nil
  | @cons x y xs ys hxy _ ih => rw [List.reverse_cons, List.reverse_cons]; exact ih.snoc hxy
section
variable {X : Cx} {e : Expr} {te : TE} {p p2 pos pos2 : Pos}
def tLstRev (K : PySem.W.Frag) (te : TE) : TE := fun σ H Q => te σ H fun x H1 => ∃ (l : Addr) (xs : List V), x = .ref l ∧ SqL K H1 l xs ∧ ∀ L : Addr, H1 L = none → Q (.ref L) (upd H1 L (.lst xs.reverse))
theorem pe_lstRev (hc : X.calm = true) (hg1 : Gl X "list") (hm1 : X.mg "list" = none) (hg2 : Gl X "reversed") (hm2 : X.mg "reversed" = none) (he : PE X e te)
    (h1 : starEach [.Call (.Name "reversed" p2) [e] [] pos2] X.env = [(false, eval (.Call (.Name "reversed" p2) [e] [] pos2) X.env)] := by rfl)
    (h2 : starEach [e] X.env = [(false, eval e X.env)] := by rfl) : PE X (.Call (.Name "list" p) [.Call (.Name "reversed" p2) [e] [] pos2] [] pos) (tLstRev X.K te) := by
  intro pins s σ H Q I h
  refine wpAny_Call_Name_kw (ld_blt I hg1 hm1 PyProof.Rows.boot_list ?_)
  refine PyProof.Rows.callWith_type1 ?_ h1 rfl
  rw [h1]
  show wpAny _ _ (spliced ((false, eval (.Call (.Name "reversed" p2) [e] [] pos2) X.env) :: backTo pos [])) _ _ s
  refine Calls.spliced_cons (wpAny_Call_Name_kw (ld_blt I hg2 hm2 (by decide +kernel : bootBuiltins "reversed" = some (.type "reversed")) ?_))
  refine PyProof.Rows.callWith_type1 ?_ h2 rfl
  rw [h2]
  show wpAny _ _ (spliced ((false, eval e X.env) :: backTo pos2 [])) _ _ s
  refine Calls.spliced_cons (thn (he pins s σ H _ I h) fun u s1 ⟨x, H1, I1, rx, l, xs, ex, hq, q⟩ => ?_)
  subst ex
  obtain rfl : u = Value.ref l := rx
  obtain ⟨its, r', pl, hz⟩ := I1.list hq
  have hlen : its.length = xs.length := by rw [← r'.length]
  refine Calls.spliced_nil (call_reversed_list pl.isList (Calls.spliced_nil ?_))
  have ltl : l < s1.heap.objs.size := by obtain ⟨o, ho, _⟩ := pl.isList; exact Heap.lt_size ho
  refine call_list_rev (I1.ok.hd hc) (Nat.ne_of_lt ltl) ⟨_, Heap.get?_push_size _ rfl, rfl, rfl⟩ (pl.isList.at fun o e => Heap.get?_push_of_some _ e) (by rw [List.size_toArray, hlen]; exact hz) fun h' tk acc' c' hk hS' hacc => ?_
  have ez : (s1.heap.push (revObj l ((its.toArray.size : Int) - 1))).objs.size = s1.heap.objs.size + 1 := size_push' ..
  simp only [ez] at hS' ⊢
  have ea : acc'.toList = its.reverse := by
    have sz : acc'.size = its.length := by rw [hacc.1, List.size_toArray]
    refine List.ext_getElem? fun j => ?_
    by_cases c : j < its.length
    · have hj : acc'[j]? = some (acc'[j]'(by omega)) := Array.getElem?_eq_getElem (by omega)
      have := hacc.2 j _ hj
      rw [Array.getElem?_toList, hj, List.getElem?_reverse c, ← this, List.getElem?_toArray, List.size_toArray]
    · rw [List.getElem?_eq_none (by rw [Array.length_toList]; omega), List.getElem?_eq_none (by rw [List.length_reverse]; omega)]
  refine ⟨.ref (s1.heap.objs.size + 1), _, I1.laid (t' := tk) (fun b o e => hk b o (Nat.ne_of_lt (Heap.lt_size e)) (Heap.get?_push_of_some _ e)) (Nat.le_succ _) (show ObjOk X.prog X.w _ h' _ (.lst xs.reverse) from ⟨by rw [List.length_reverse]; exact hz, acc'.toList, c', by rw [ea]; exact paired_rev r', by simpa using hS'⟩), rfl, q _ (I1.hok.fresh (Nat.le_succ _))⟩
end
end L2
namespace L2
open PySem PySem.Spec PyProof.Rows
section
variable {X : Cx}
end
end L2
namespace L2
open PySem PySem.Spec PyProof.Rows
theorem mapErase (xs : List Str) (j : Nat) : (xs.eraseIdx j).map V.str = (xs.map V.str).eraseIdx j := by
  induction xs generalizing j with
  | nil => rfl
  | cons x xs ih => cases j with
    | zero => rfl
    | succ j => show V.str x :: (xs.eraseIdx j).map V.str = V.str x :: (xs.map V.str).eraseIdx j; rw [ih]
def rRemove : V → List V → Hp → VK → Prop := fun x vs H Q => ∃ (l : Addr) (xs : List Str) (y : Str) (j : Nat), x = .ref l ∧ vs = [.str y] ∧ H l = some (.lst (xs.map V.str)) ∧ xs[j]? = some y ∧ (∀ i z, i < j → xs[i]? = some z → z ≠ y) ∧ Q .non (upd H l (.lst ((xs.eraseIdx j).map V.str)))
theorem vals_str : ∀ {xs : List Str} {its : List Value}, Vals (xs.map V.str) its → ∀ (i : Nat) (v : Value), its[i]? = some v → ∃ x t, xs[i]? = some x ∧ v = .str x t
  | [], _, h, i, v, e => by cases h; simp at e
  | x :: xs, _, h, i, v, e => by
    cases h with
    | cons r t =>
      cases i with
      | zero =>
        obtain ⟨t1, rfl⟩ := r
        have e : Value.str x t1 = v := Option.some.inj e
        exact ⟨x, t1, rfl, e.symm⟩
      | succ i => exact vals_str t i v e
section
variable {X : Cx}
theorem mt_remove : MtM X "list.remove" rRemove := by
  intro pins s σ H x vs v us Q I rx rv h
  obtain ⟨l, xs, y, j, rfl, rfl, hH, hy, hb, q⟩ := h
  cases rx
  obtain ⟨u, rfl, ru⟩ := rv.one
  obtain ⟨tt, rfl⟩ := ru
  obtain ⟨z, its, n, r, hl, e⟩ := I.lstM hH
  rw [List.length_map] at hl z
  have jl := (List.getElem?_eq_some_iff.mp hy).1
  have at' : ∀ i (hi : i < its.toArray.size), ∃ x t, xs[i]? = some x ∧ its.toArray[i] = .str x t := fun i hi => vals_str r i _ (by rw [List.getElem?_eq_getElem (by simpa using hi)]; simp)
  refine call_meets F.slot_list_remove ⟨_, e, rfl⟩ F.entry_list_remove (F.args_list_remove_2 _ _)
    (MeetsSeq.list_remove l its.toArray n (.str y tt) (fun v => match v with | .str x _ => x == y | _ => false) (fun v hv => ?_) j (by rw [List.size_toArray]; omega) ?_ (fun m hm hlt => ?_) (by rw [List.size_toArray, ← hl]; exact z)) ⟨e, ?_⟩
  · obtain ⟨i, hi, ei⟩ := Array.mem_iff_getElem.mp hv
    obtain ⟨x, t, e1, e2⟩ := at' i hi
    rw [← ei, e2]
    exact PyProof.Rows.eqGives_str x y t tt
  · obtain ⟨x, t, e1, e2⟩ := at' j (by rw [List.size_toArray]; omega)
    rw [hy] at e1
    cases e1
    rw [e2]
    simp
  · obtain ⟨x, t, e1, e2⟩ := at' m hm
    rw [e2]
    exact beq_eq_false_iff_ne.mpr (hb m x hlt e1)
  · refine ⟨.non, _, I.lset (its' := its.eraseIdx j) hH e ?_ ?_ ?_, rfl, q⟩
    · show its.toArray.eraseIdxIfInBounds j = (its.eraseIdx j).toArray
      rw [List.eraseIdxIfInBounds_toArray]
    · rw [mapErase]; exact r.eraseIdx j
    · have := len_erase (xs.map V.str) j
      rw [← mapErase, List.length_map (as := xs)] at this
      omega
end
end L2
namespace L2
open PySem PySem.Spec PyProof.Rows
section
variable {prog : Program} {w : World} {A : Around} {E : Value → Shared → Prop} {s : Shared}
theorem keys_miss : typeLookup (.type "list") "keys" = pure none := by rw [typeLookup_type, builtinLookup_eq_fast]; kernel_rfl
theorem getAttrQ_list {a : Addr} {o : Obj} {xs : Array Value} {k : Nat} {Q : Option Value → Shared → Prop}
    (hx : s.heap.get? a = some o) (hc : o.cls = .type "list") (hdat : o.data = .seq xs k) (hd : o.dict = none) (hA : A.handled = none)
    (h : ∀ h' tk, (∀ b ob, s.heap.get? b = some ob → h'.get? b = some ob) → Q none { s with heap := h', toks := tk }) :
    wpAny (model prog w) A (getAttr? (.ref a) "keys") Q E s := by
  obtain ⟨c, dct, dat, sl⟩ := o
  simp only at hc hdat hd
  subst hc hdat hd
  obtain ⟨hp, g, d, tk, os⟩ := s
  have hT : ∀ tk', (⟨hp, g, d, tk', os⟩ : Shared).TypeIs (.ref a) "list" := fun _ => ⟨_, hx, rfl⟩
  have f1 := sub_AttributeError
  have f3 := F.slot_list_getattribute.lookup
  have f4 := F.slot_list_getattribute.bind (.ref a)
  have f5 := am_list_getattr_none
  unfold getAttr? getAttrBy? getAttrBy
  repeat (any_goals (first | assumption | exact hT _ | ((with_reducible show wpAny _ _ (call (Value.builtin "list.__getattribute__") _ _) _ _ _); refine call_meets F.slot_list_getattribute (hT _) am_entry_list_getattribute (F.args_list_getattribute_2 _ _) (meets_getattribute_miss_list a xs k sl "keys" _ keys_miss (by decide +kernel) (by size_fits)) ⟨hx, hA, fun h' tk' e hx' => ?_⟩) | wp_step))
  obtain ⟨t', u', he⟩ := hx'.there
  show wpAny _ _ (getattributeRaised _ _ _ _ _ _ _) _ _ _
  unfold getattributeRaised
  repeat (any_goals (first | assumption | wp_step))
  exact h _ _ hx'.keeps
end
end L2
namespace L2
open PySem PySem.Spec PyProof.Rows
theorem plain_upd_loop : plainId "dict.update.loop" = true := by decide +kernel
theorem entry_upd_loop : entryFor table "dict.update.loop" = some Builtin.«dict.update.loop» := entryFor_of_tree (by kernel_rfl)
section
variable {prog : Program} {w : World} {A : Around} {s : Shared} {R : Result → Shared → Prop}
abbrev tkK (prog : Program) (w : World) := tupleKind (mixKind prog w)
theorem dmove {h h' : Heap} {D : Addr} {ys : List (List Key × Addr × Value)} (hd : h.DictOfH (tkK prog w) D ys) (kp : ∀ o, h.get? D = some o → h'.get? D = some o) (is : ∀ x ∈ ys, (tkK prog w).is h' x.1 x.2.1) : h'.DictOfH (tkK prog w) D ys := by
  obtain ⟨o, es, ep, e1, e2, e3, e4, _, e6⟩ := hd
  exact ⟨o, es, ep, kp o e1, e2, e3, e4, is, e6⟩
theorem dict_loop {D it l : Addr} {items : Array Value} {xs : List (List Key × Addr × Value)} {h₀ : Heap} (hh : A.handled = none) (hu : A.units + 1 < cLine) (nDi : D ≠ it) (fD : h₀.objs.size ≤ D) (fi : h₀.objs.size ≤ it)
    (hl : h₀.IsList l items) (hx : ∀ (j : Nat) x, xs[j]? = some x → ∃ t o c, items[j]? = some (.ref t) ∧ h₀.get? t = some o ∧ o.cls = .type "tuple" ∧ o.data = .seq #[.ref x.2.1, x.2.2] c ∧ (∀ h' : Heap, (∀ b ob, h₀.get? b = some ob → h'.get? b = some ob) → (tkK prog w).is h' x.1 x.2.1))
    (hn : xs.length = items.size) (nd : (xs.map (·.1)).Nodup) (hz : xs.length ≤ sizeLine)
    (hR : ∀ h' tk, (∀ b o, h₀.get? b = some o → h'.get? b = some o) → h'.DictOfH (tkK prog w) D xs → R (.ok (.ret .none)) { s with heap := h', toks := tk }) :
    ∀ (k i : Nat) (h : Heap) (tk : Nat), items.size - i = k → i ≤ items.size → (∀ b o, h₀.get? b = some o → h.get? b = some o) → h.IsListIter it l i → h.DictOfH (tkK prog w) D (xs.take i) →
      codeAny (model prog w) A (.builtin "dict.update.loop" ⟨[.ref D, .ref it, rawInt i, .none], []⟩) R { s with heap := h, toks := tk } := by
  have neD : ∀ b o, h₀.get? b = some o → b ≠ D := fun b o e => Nat.ne_of_lt (Nat.lt_of_lt_of_le (Heap.lt_size e) fD)
  have neI : ∀ b o, h₀.get? b = some o → b ≠ it := fun b o e => Nat.ne_of_lt (Nat.lt_of_lt_of_le (Heap.lt_size e) fi)
  intro k
  induction k with
  | zero =>
    intro i h tk hk hi kp hit hd
    refine codeAny_builtin entry_upd_loop ?_
    rw [Around.under_plainId plain_upd_loop _]
    show wpAny _ A.in1 (pyNext (.ref it) >>= _) _ _ _
    refine wpAny_bind (wpAny_pyNext_list_end (s := { s with heap := h, toks := tk }) (A := A.in1) hh hit (hl.at fun o e => kp _ o e) (Array.getElem?_eq_none (by omega)) fun h' he => ?_)
    show wpAny _ _ (Builtin.Dict.addKeywords D [] >>= _) _ _ _
    refine wpAny_bind (wpAny_pure (wpAny_pure (hR h' tk (fun b o e => he b o (neI b o e) (kp b o e)) ?_)))
    rw [List.take_of_length_le (by omega)] at hd
    exact dmove hd (fun o e => he D o nDi e) fun x hx' => by
      obtain ⟨j, hj⟩ := List.mem_iff_getElem?.mp hx'
      obtain ⟨_, _, _, _, _, _, _, e5⟩ := hx j x hj
      exact e5 h' fun b o e => he b o (neI b o e) (kp b o e)
  | succ k ih =>
    intro i h tk hk hi kp hit hd
    have lt : i < xs.length := by omega
    obtain ⟨t, o, c, e1, e2, e3, e4, e5⟩ := hx i _ (List.getElem?_eq_getElem lt)
    refine codeAny_builtin entry_upd_loop ?_
    rw [Around.under_plainId plain_upd_loop _]
    show wpAny _ A.in1 (pyNext (.ref it) >>= _) _ _ _
    refine wpAny_bind (wpAny_pyNext_list_item (s := { s with heap := h, toks := tk }) (A := A.in1) hit (hl.at fun o e => kp _ o e) e1 fun h1 hit1 hs1 => ?_)
    refine wpAny_bind (wpAny_holding ?_)
    have kp1 : ∀ b o, h₀.get? b = some o → h1.get? b = some o := fun b o e => (hs1.2 b (neI b o e)).trans (kp b o e)
    have hd1 : h1.DictOfH (tkK prog w) D (xs.take i) := dmove hd (fun o e => (hs1.2 D nDi).trans e) fun x hx' => by
      obtain ⟨j, hj⟩ := List.mem_iff_getElem?.mp (List.mem_of_mem_take hx')
      obtain ⟨_, _, _, _, _, _, _, e5⟩ := hx j x hj
      exact e5 h1 kp1
    have et := kp1 _ _ e2
    show wpAny _ A.in1 (tryCatch (Builtin.Dict.pairItems (Value.ref t)) _ >>= _) _ _ _
    refine wpAny_bind (wpAny_tryCatch ?_)
    unfold Builtin.Dict.pairItems
    refine wpAny_bind (wpAny_typeOf (T := "tuple") ⟨o, et, e3⟩ ?_)
    rw [if_pos (by decide)]
    refine wpAny_bind (wpAny_seqItems et e4 (wpAny_pure ?_))
    show wpAny _ A.in1 (holding [Value.ref xs[i].2.1, xs[i].2.2] (dictSet D (Value.ref xs[i].2.1) xs[i].2.2)) _ _ _
    refine wpAny_holding (wpAny_dictSet_heap (knd := tkK prog w) (s := { s with heap := h1, toks := tk }) hu (e5 h1 kp1) hd1 (fun h2 hd2 hs2 => ?_) (by rw [List.length_take]; omega))
    have nn : xs[i].1 ∉ (xs.take i).map (·.1) := fun z => by
      obtain ⟨x, hx', ex⟩ := List.mem_map.mp z
      obtain ⟨j, hj⟩ := List.mem_iff_getElem?.mp hx'
      have lj := (List.getElem?_eq_some_iff.mp hj).1
      rw [List.length_take] at lj
      rw [List.getElem?_take_of_lt (by omega)] at hj
      have a1 : (xs.map (·.1))[j]? = some xs[i].1 := by rw [List.getElem?_map, hj]; exact congrArg some ex
      have a2 : (xs.map (·.1))[i]? = some xs[i].1 := by rw [List.getElem?_map, List.getElem?_eq_getElem lt]; rfl
      have := (List.getElem?_inj (by rw [List.length_map]; exact lt) nd).mp (a2.trans a1.symm)
      omega
    have at0 : atKey (xs.take i) xs[i].1 = none := atKey_none_of_get fun j p hj => nn (List.mem_map.mpr ⟨_, List.mem_of_getElem? hj, rfl⟩)
    rw [storedH_new at0] at hd2
    have et2 : xs.take i ++ [(xs[i].1, xs[i].2.1, xs[i].2.2)] = xs.take (i + 1) := by rw [List.take_add_one, List.getElem?_eq_getElem lt]; rfl
    rw [et2] at hd2
    refine wpAny_pure ⟨plainId_quiet plain_upd_loop _, ?_⟩
    exact ih (i + 1) h2 _ (by omega) (by omega) (fun b o e => (hs2.2 b (neD b o e)).trans (kp1 b o e)) (hit1.at fun o e => (hs2.2 it nDi.symm).trans e) hd2
end
end L2
namespace L2
open PySem PySem.Spec PyProof.Rows
section
variable {prog : Program} {w : World} {A : Around} {E : Value → Shared → Prop} {s : Shared}
theorem call_dict_pairs {l : Addr} {o : Obj} {items : Array Value} {c : Nat} {xs : List (List Key × Addr × Value)} {Q : Value → Shared → Prop} (hh : A.handled = none) (hu : A.units + 64 < cLine)
    (ho : s.heap.get? l = some o) (hoc : o.cls = .type "list") (hod : o.dict = none) (hdat : o.data = .seq items c)
    (hx : ∀ (j : Nat) x, xs[j]? = some x → ∃ t o c, items[j]? = some (.ref t) ∧ s.heap.get? t = some o ∧ o.cls = .type "tuple" ∧ o.data = .seq #[.ref x.2.1, x.2.2] c ∧ (∀ h' : Heap, (∀ b ob, s.heap.get? b = some ob → h'.get? b = some ob) → (tkK prog w).is h' x.1 x.2.1))
    (hn : xs.length = items.size) (nd : (xs.map (·.1)).Nodup) (hz : xs.length ≤ sizeLine)
    (hQ : ∀ h' tk, (∀ b o, s.heap.get? b = some o → h'.get? b = some o) → h'.DictOfH (tkK prog w) s.heap.objs.size xs → Q (.ref s.heap.objs.size) { s with heap := h', toks := tk }) :
    wpAny (model prog w) A (call (.type "dict") [.ref l]) Q E s := by
  refine callType_codes (Q₁ := fun obj s₁ => obj = .ref s.heap.objs.size ∧ s₁ = { s with heap := s.heap.push { cls := .type "dict", data := .dict #[] } }) F.kt_called_dict (F.kt_typeCall_dict_1 _) F.entry_dict_init (kt_code_dict_new _ ⟨rfl, rfl⟩) ?_
  rintro obj s₁ ⟨rfl, rfl⟩
  have hnew : (s.heap.push { cls := .type "dict", data := .dict #[] }).DictOfH (tkK prog w) s.heap.objs.size [] := Heap.DictOfH.new s.heap
  have ho' : (s.heap.push { cls := .type "dict", data := .dict #[] }).get? l = some o := Heap.get?_push_of_some _ ho
  refine ⟨hnew.typeIs, F.args_dict_init_2 _ _, ?_⟩
  unfold Builtin.«dict.__init__»
  refine wpAny_bind ?_
  unfold Builtin.Dict.selfAndRest
  refine wpAny_bind (wpAny_notOrdered_dict hnew.typeIs ?_)
  show wpAny _ _ (pure (s.heap.objs.size, [Value.ref l])) _ _ _
  refine wpAny_pure ?_
  show wpAny _ _ (Builtin.Dict.updateFrom "dict.__init__" s.heap.objs.size (.ref l) [] .none) _ _ _
  unfold Builtin.Dict.updateFrom
  refine wpAny_bind (wpAny_typeOf (T := "list") ⟨o, ho', hoc⟩ ?_)
  rw [if_pos (by decide)]
  refine wpAny_bind (getAttrQ_list (s := { s with heap := s.heap.push { cls := .type "dict", data := .dict #[] } }) ho' hoc hdat hod (by exact hh) fun h1 tk1 k1 => ?_)
  rw [if_pos (show (none : Option Value).isNone = true from rfl)]
  refine wpAny_bind (wpAny_rule ?_)
  have hl1 : h1.IsList l items := ⟨o, k1 _ _ ho', hoc, c, hdat⟩
  refine wpAny_bind (wpAny_pyIter_list (s := { s with heap := h1, toks := tk1 }) hl1 ?_)
  have kp : ∀ b o, s.heap.get? b = some o → (h1.push { cls := .type "list_iterator", data := .fields #[.ref l, .int 0 0] }).get? b = some o := fun b o e => Heap.get?_push_of_some _ (k1 b o (Heap.get?_push_of_some _ e))
  obtain ⟨oD, es, ep, d1, d2, d3, d4, d5, d6⟩ := id hnew
  have hD1 := k1 _ _ d1
  have ltD : s.heap.objs.size < h1.objs.size := Heap.lt_size hD1
  refine wpAny_pure ⟨plainId_quiet plain_upd_loop _, ?_⟩
  refine dict_loop (A := A.in1) (s := s) (h₀ := s.heap) (xs := xs) hh (by show A.units + 1 + 1 < cLine; omega) (Nat.ne_of_lt ltD) (Nat.le_refl _) (Nat.le_of_lt ltD) ⟨o, ho, hoc, c, hdat⟩ hx hn nd hz (fun h' tk kk hd => ?_) items.size 0 _ _ (Nat.sub_zero _) (Nat.zero_le _) kp ⟨_, Heap.get?_push_size _ rfl, rfl, rfl⟩ ⟨oD, es, ep, Heap.get?_push_of_some _ hD1, d2, d3, d4, (fun x hx => nomatch hx), List.nodup_nil⟩
  exact ⟨rfl, hQ h' tk kk hd⟩
end
section
variable {X : Cx}
def DPr (H : Hp) (t : Addr) (p : List Key × V) : Prop := ∃ a : Addr, H t = some (.tup [.ref a, p.2]) ∧ H a = some (.tup (p.1.map kV))
theorem call_dictP (hc : X.calm = true) (hu : X.A.units + 64 < cLine) : CallR X (.type "dict") (fun vs H Q => ∃ (l : Addr) (ts : List Addr) (kvs : List (List Key × V)), vs = [.ref l] ∧ H l = some (.lst (ts.map V.ref)) ∧ Paired (DPr H) ts kvs ∧ (kvs.map (·.1)).Nodup ∧ ∀ D, H D = none → Q (.ref D) (upd H D (.dT kvs))) := by
  intro pins s σ H vs us Q I r h
  obtain ⟨l, ts, kvs, rfl, hl, pr, nd, q⟩ := h
  obtain ⟨u, rfl, rx⟩ := vals1 r
  cases rx
  obtain ⟨z, its, n, rv, hlen, e⟩ := I.lstM hl
  rw [List.length_map] at z hlen
  obtain ⟨xs, hxs, hat⟩ : ∃ xs : List (List Key × Addr × Value), Paired (fun (p : List Key × V) (q : List Key × Addr × Value) => p.1 = q.1 ∧ H q.2.1 = some (.tup (p.1.map kV)) ∧ RelV p.2 q.2.2) kvs xs ∧ ∀ (j : Nat) x, xs[j]? = some x → ∃ t o c, its[j]? = some (.ref t) ∧ s.heap.get? t = some o ∧ o.cls = .type "tuple" ∧ o.data = .seq #[.ref x.2.1, x.2.2] c ∧ H x.2.1 = some (.tup (x.1.map kV)) := by
    clear hl e q nd hlen z
    induction pr generalizing its with
    | nil => exact ⟨[], .nil, fun j x e => by simp at e⟩
    | @cons t p ts kvs hp _ ih =>
      cases rv with
      | @cons _ v0 _ its r0 rt =>
        obtain ⟨xs, h1, h2⟩ := ih its rt
        obtain ⟨a, ht, ha⟩ := hp
        obtain ⟨_, its2, rv2, o, o1, o2, c, o3⟩ := (show ObjOk X.prog X.w H s.heap t (.tup [.ref a, p.2]) from I.hok t _ ht)
        obtain ⟨u1, u2, rfl, ru1, ru2⟩ := rv2.two
        cases ru1
        refine ⟨(p.1, a, u2) :: xs, .cons ⟨rfl, ha, ru2⟩ h1, fun j x e => ?_⟩
        cases j with
        | zero =>
          cases (show (p.1, a, u2) = x from Option.some.inj e)
          have r0 : v0 = Value.ref t := r0
          exact ⟨t, o, c, by rw [r0]; rfl, o1, o2, o3, ha⟩
        | succ j => exact h2 j x e
  have lx : xs.length = kvs.length := (Paired.length hxs).symm
  have lk : kvs.length = ts.length := (Paired.length pr).symm
  have ek : xs.map (·.1) = kvs.map (·.1) := by
    clear hat lx pr nd q lk
    induction hxs with
    | nil => rfl
    | cons hp _ ih => rw [List.map_cons, List.map_cons, ih, hp.1]
  refine call_dict_pairs (A := X.A) (xs := xs) (I.ok.hd hc) hu e rfl rfl rfl (fun j x hj => ?_) (by rw [List.size_toArray]; omega) (by rw [ek]; exact nd) (by omega) fun h' tk kk hd => ?_
  · obtain ⟨t, o, c, e1, e2, e3, e4, e5⟩ := hat j x hj
    refine ⟨t, o, c, by rw [List.getElem?_toArray]; exact e1, e2, e3, e4, fun h' kk => ?_⟩
    exact key_of (I.hok.kept kk) e5
  · have f : H s.heap.objs.size = none := I.hok.fresh (Nat.le_refl _)
    obtain ⟨o, es, ep, d1, d2, d3, d4, _, d6⟩ := hd
    have sysn : (s.heap.objs.size == sysModules) = false := by
      have := I.big
      exact beq_eq_false_iff_ne.mpr (Nat.ne_of_gt this)
    refine ⟨.ref s.heap.objs.size, _, I.laid (t' := tk) kk (Nat.le_refl _) (show ObjOk X.prog X.w _ h' _ (.dT kvs) from ⟨by omega, sysn, xs, Paired.mapP hxs fun p q hp => ⟨hp.1, at_upd hp.2.1 f, hp.2.2⟩, o, es, ep, d1, d2, d3, d4, d6⟩), rfl, q _ f⟩
end
end L2
namespace L2
open PySem PySem.Spec PyProof.Rows
abbrev IsZipB (h : Heap) (z TI TO T : Addr) (f : Bool) : Prop :=
  h.get? z = some { cls := .type "zip", dict := none, data := .fields #[rawInt T, .bool f, .bool false, .ref TI, .ref TO], slots := #[] }
section
variable {prog : Program} {w : World} {A : Around} {E : Value → Shared → Prop} {s : Shared}
theorem zip_free {z TI TO T : Addr} {f : Bool} {oT : Obj} {Q : Bool → Shared → Prop} (hz : IsZipB s.heap z TI TO T f) (hT : s.heap.get? T = some oT)
    (hQ : ∀ h', IsZipB h' z TI TO T true → Heap.SameBut z s.heap h' → Q false { s with heap := h' }) : wpAny (model prog w) A (Builtin.SmallTypes.ownedTupleIsFree (.ref z)) Q E s := by
  unfold Builtin.SmallTypes.ownedTupleIsFree
  refine wpAny_bind (wpAny_field hz rfl (x := rawInt T) rfl ?_)
  show wpAny _ _ (loadIfAlive ((T : Int).toNat) >>= _) _ _ _
  rw [Int.toNat_natCast]
  refine wpAny_bind (PySem.W.kdx_alive hT ?_)
  simp only [Option.isNone_some, Bool.false_eq_true, if_false]
  refine wpAny_bind (wpAny_field hz rfl (x := .bool f) rfl ?_)
  cases f with
  | true =>
    rw [if_neg (show ¬ ((Value.bool true != Value.bool true) = true) from Bool.false_ne_true)]
    exact wpAny_pure (hQ _ hz (Heap.SameBut.refl _ _))
  | false =>
    rw [if_pos (show (Value.bool false != Value.bool true) = true from rfl)]
    refine wpAny_bind (wpAny_setField_rec hz (by simp) fun h₃ he₃ hs₃ => ?_)
    exact wpAny_pure (hQ h₃ he₃ hs₃)
theorem zip_again {z TI TO i1 i2 l1 l2 T : Addr} {f : Bool} {oT : Obj} {k1 k2 : Nat} {xs ys : Array Value} {x y : Value} {Q : Value → Shared → Prop} (D : ZipApart z TI TO i1 i2 l1 l2)
    (hz : IsZipB s.heap z TI TO T f) (hT : s.heap.get? T = some oT) (hTI : IsPair s.heap TI (.ref i1) (.ref i2))
    (h1 : s.heap.IsListIter i1 l1 k1) (h2 : s.heap.IsListIter i2 l2 k2) (hl1 : s.heap.IsList l1 xs) (hl2 : s.heap.IsList l2 ys) (hx : xs[k1]? = some x) (hy : ys[k2]? = some y)
    (hQ : ∀ h', IsZipB h' z TI TO T true → h'.IsListIter i1 l1 (k1 + 1) → h'.IsListIter i2 l2 (k2 + 1) → IsPair h' s.heap.objs.size x y → h'.objs.size = s.heap.objs.size + 1 →
      (∀ c o, c ≠ z → c ≠ i1 → c ≠ i2 → s.heap.get? c = some o → h'.get? c = some o) → Q (.ref s.heap.objs.size) { s with heap := h' }) :
    wpAny (model prog w) A (Builtin.«zip.__next__» ⟨[.ref z], []⟩) (fun fin s' => ∃ v, fin = .done (.ret v) ∧ Q v s') E s := by
  show wpAny _ _ (field (.ref z) 2 >>= _) _ _ _
  refine wpAny_bind (wpAny_field hz rfl (x := .bool false) rfl ?_)
  show wpAny _ _ (field (.ref z) 3 >>= _) _ _ _
  refine wpAny_bind (wpAny_field hz rfl (x := .ref TI) rfl ?_)
  refine wpAny_bind (wpAny_seqItems hTI rfl ?_)
  show wpAny _ _ (Builtin.SmallTypes.ownedTupleIsFree (.ref z) >>= _) _ _ _
  refine wpAny_bind (zip_free hz hT fun h₁ hz₁ hs₁ => ?_)
  simp only [Bool.false_eq_true, if_false]
  refine wpAny_bind ?_
  rw [show (#[Value.ref i1, Value.ref i2] : Array Value) = [Value.ref i1, Value.ref i2].toArray from rfl, List.forIn_toArray]
  simp only [List.forIn_cons, List.forIn_nil]
  refine wpAny_bind (wpAny_bind (wpAny_holding ?_))
  show wpAny _ _ (Builtin.SmallTypes.nextOf (.ref i1) >>= _) _ _ _
  refine wpAny_bind (wpAny_nextOf_list_item (s := { s with heap := h₁ }) (h1.extBut hs₁.extBut D.i1z) (hl1.extBut hs₁.extBut D.l1z) hx fun h₂ h1₂ hs₂ => wpAny_pure (wpAny_pure ?_))
  refine wpAny_bind (wpAny_bind (wpAny_holding ?_))
  show wpAny _ _ (Builtin.SmallTypes.nextOf (.ref i2) >>= _) _ _ _
  refine wpAny_bind (wpAny_nextOf_list_item (s := { s with heap := h₂ }) ((h2.extBut hs₁.extBut D.i2z).extBut hs₂.extBut D.i12.symm) ((hl2.extBut hs₁.extBut D.l2z).extBut hs₂.extBut D.l2i1) hy fun h₃ h2₃ hs₃ => wpAny_pure (wpAny_pure (wpAny_pure ?_)))
  show wpAny _ _ (newTuple [x, y] >>= _) _ _ _
  refine wpAny_bind (wpAny_newTuple (wpAny_pure ⟨_, rfl, ?_⟩))
  have hsz : h₃.objs.size = s.heap.objs.size := by rw [hs₃.1, hs₂.1, hs₁.1]
  have kp : ∀ c o, c ≠ z → c ≠ i1 → c ≠ i2 → s.heap.get? c = some o → h₃.get? c = some o := fun c o c1 c2 c3 e => hs₃.extBut _ _ c3 (hs₂.extBut _ _ c2 (hs₁.extBut _ _ c1 e))
  show Q (.ref h₃.objs.size) _
  rw [hsz]
  refine hQ _ (Heap.get?_push_of_some _ (hs₃.extBut _ _ D.i2z.symm (hs₂.extBut _ _ D.i1z.symm hz₁))) ((h1₂.extBut hs₃.extBut D.i12).at fun o e => Heap.get?_push_of_some _ e) (h2₃.at fun o e => Heap.get?_push_of_some _ e) ?_ (by rw [Heap.size_push, hsz]) fun c o c1 c2 c3 e => Heap.get?_push_of_some _ (kp c o c1 c2 c3 e)
  rw [← hsz]
  exact Heap.get?_push_size _ rfl
theorem zip_over {z TI TO i1 i2 l1 l2 T : Addr} {f : Bool} {oT : Obj} {k1 : Nat} {xs : Array Value} {Q : Fin → Shared → Prop} (hh : A.handled = none) (D : ZipApart z TI TO i1 i2 l1 l2)
    (hz : IsZipB s.heap z TI TO T f) (hT : s.heap.get? T = some oT) (hTI : IsPair s.heap TI (.ref i1) (.ref i2))
    (h1 : s.heap.IsListIter i1 l1 k1) (hl1 : s.heap.IsList l1 xs) (hx : xs[k1]? = none)
    (hE : ∀ h' e, (∀ c o, c ≠ z → c ≠ i1 → s.heap.get? c = some o → h'.get? c = some o) → (∃ o, h'.get? e = some o ∧ o.cls = .type "StopIteration") → E (.ref e) { s with heap := h' }) :
    wpAny (model prog w) A (Builtin.«zip.__next__» ⟨[.ref z], []⟩) Q E s := by
  show wpAny _ _ (field (.ref z) 2 >>= _) _ _ _
  refine wpAny_bind (wpAny_field hz rfl (x := .bool false) rfl ?_)
  show wpAny _ _ (field (.ref z) 3 >>= _) _ _ _
  refine wpAny_bind (wpAny_field hz rfl (x := .ref TI) rfl ?_)
  refine wpAny_bind (wpAny_seqItems hTI rfl ?_)
  show wpAny _ _ (Builtin.SmallTypes.ownedTupleIsFree (.ref z) >>= _) _ _ _
  refine wpAny_bind (zip_free hz hT fun h₁ hz₁ hs₁ => ?_)
  simp only [Bool.false_eq_true, if_false]
  refine wpAny_bind ?_
  rw [show (#[Value.ref i1, Value.ref i2] : Array Value) = [Value.ref i1, Value.ref i2].toArray from rfl, List.forIn_toArray]
  simp only [List.forIn_cons, List.forIn_nil]
  refine wpAny_bind (wpAny_bind (wpAny_holding ?_))
  show wpAny _ _ (Builtin.SmallTypes.nextOf (.ref i1) >>= _) _ _ _
  exact wpAny_bind (wpAny_nextOf_list_end (s := { s with heap := h₁ }) hh (h1.extBut hs₁.extBut D.i1z) (hl1.extBut hs₁.extBut D.l1z) hx fun h₂ e he ho => hE h₂ e (fun c o c1 c2 ec => he c o c2 (hs₁.extBut _ _ c1 ec)) ho)
def ZipSt (h : Heap) (z TI TO i1 i2 S : Addr) (i : Nat) : Prop :=
  (i = 0 ∧ IsZip h z TI TO .none ∧ ∃ a b, IsPair h TO a b) ∨ ∃ T f oT, IsZipB h z TI TO T f ∧ h.get? T = some oT ∧ T ≠ z ∧ T ≠ i1 ∧ T ≠ i2 ∧ T ≠ S
theorem zipst_item {z TI TO i1 i2 l1 l2 S : Addr} {i : Nat} {xs ys : Array Value} {x y : Value} {Q : Option Value → Shared → Prop} (D : ZipApart z TI TO i1 i2 l1 l2) (hS : S < s.heap.objs.size)
    (hst : ZipSt s.heap z TI TO i1 i2 S i) (hTI : IsPair s.heap TI (.ref i1) (.ref i2)) (h1 : s.heap.IsListIter i1 l1 i) (h2 : s.heap.IsListIter i2 l2 i) (hl1 : s.heap.IsList l1 xs) (hl2 : s.heap.IsList l2 ys) (hx : xs[i]? = some x) (hy : ys[i]? = some y)
    (hQ : ∀ h', ZipSt h' z TI TO i1 i2 S (i + 1) → h'.IsListIter i1 l1 (i + 1) → h'.IsListIter i2 l2 (i + 1) → IsPair h' s.heap.objs.size x y → h'.objs.size = s.heap.objs.size + 1 →
      (∀ c o, c ≠ z → c ≠ TO → c ≠ i1 → c ≠ i2 → s.heap.get? c = some o → h'.get? c = some o) → Q (some (.ref s.heap.objs.size)) { s with heap := h' }) :
    wpAny (model prog w) A (pyNext (.ref z)) Q E s := by
  have l1' : i1 < s.heap.objs.size := by obtain ⟨_, e, _⟩ := h1; exact Heap.lt_size e
  have l2' : i2 < s.heap.objs.size := by obtain ⟨_, e, _⟩ := h2; exact Heap.lt_size e
  rcases hst with ⟨rfl, hz, a, b, hTO⟩ | ⟨T, f, oT, hz, hT, t1, t2, t3, t4⟩
  · exact wpAny_pyNext_zip_item D hz hTI hTO h1 h2 hl1 hl2 hx hy fun h' a1 a2 a3 a4 a5 a6 a7 => hQ h' (.inr ⟨_, false, _, a1, a5, Nat.ne_of_gt (Heap.lt_size hz), Nat.ne_of_gt l1', Nat.ne_of_gt l2', Nat.ne_of_gt hS⟩) a3 a4 a5 a6 a7
  · have hT' : s.TypeIs (.ref z) "zip" := ⟨_, hz, rfl⟩
    unfold pyNext
    exact wpAny_bind (wpAny_attempt (wpAny_callSpecial?_slot (name := Str.ofString "__next__") hT' F.slot_zip_next
      (wpAny_call_entry F.slot_zip_next hT' F.entry_zip_next
        (zip_again D hz hT hTI h1 h2 hl1 hl2 hx hy fun h' a1 a2 a3 a4 a5 a6 => wpAny_pure (hQ h' (.inr ⟨T, true, oT, a1, a6 _ _ t1 t2 t3 hT, t1, t2, t3, t4⟩) a2 a3 a4 a5 fun c o c1 _ c3 c4 e => a6 c o c1 c3 c4 e)) (F.args_zip_next_1 _))))
theorem zipst_done {z TI TO i1 i2 l1 l2 S : Addr} {i : Nat} {xs ys : Array Value} {Q : Option Value → Shared → Prop} (hh : A.handled = none) (D : ZipApart z TI TO i1 i2 l1 l2)
    (hst : ZipSt s.heap z TI TO i1 i2 S i) (hTI : IsPair s.heap TI (.ref i1) (.ref i2)) (h1 : s.heap.IsListIter i1 l1 i) (h2 : s.heap.IsListIter i2 l2 i) (hl1 : s.heap.IsList l1 xs) (hl2 : s.heap.IsList l2 ys) (hx : xs[i]? = none)
    (hQ : ∀ h', (∀ c o, c ≠ z → c ≠ TO → c ≠ i1 → c ≠ i2 → s.heap.get? c = some o → h'.get? c = some o) → Q none { s with heap := h' }) :
    wpAny (model prog w) A (pyNext (.ref z)) Q E s := by
  rcases hst with ⟨rfl, hz, a, b, hTO⟩ | ⟨T, f, oT, hz, hT, t1, t2, t3, t4⟩
  · exact wpAny_pyNext_zip_end hh D hz hTI hTO h1 h2 hl1 hl2 (.inl hx) hQ
  · have hT' : s.TypeIs (.ref z) "zip" := ⟨_, hz, rfl⟩
    unfold pyNext
    refine wpAny_bind (wpAny_attempt (wpAny_callSpecial?_slot (name := Str.ofString "__next__") hT' F.slot_zip_next
      (wpAny_call_entry F.slot_zip_next hT' F.entry_zip_next (zip_over hh D hz hT hTI h1 hl1 hx fun h' e hk he => ?_) (F.args_zip_next_1 _))))
    obtain ⟨o, ho, hc⟩ := he
    refine wpAny_bind (wpAny_isInstance (T := "StopIteration") (b := true) ⟨o, ho, hc⟩ isSubtype_stop ?_)
    exact wpAny_pure (hQ _ fun c o c1 _ c3 _ e => hk c o c1 c3 e)
theorem zip_nolen : typeLookup (.type "zip") "__len__" = pure none := by rw [typeLookup_type, builtinLookup_eq_fast]; kernel_rfl
theorem zip_nohint : typeLookup (.type "zip") "__length_hint__" = pure none := by rw [typeLookup_type, builtinLookup_eq_fast]; kernel_rfl
end
structure ZipG (xs ys : Array Value) (lo : Addr) (h : Heap) (as : List Addr) : Prop where
  rise : as.Pairwise (· < ·)
  above : ∀ a ∈ as, lo < a
  pairs : ∀ (j : Nat) (a : Addr), as[j]? = some a → ∃ x y, xs[j]? = some x ∧ ys[j]? = some y ∧ h.get? a = some { cls := .type "tuple", data := .seq #[x, y] }
section
variable {prog : Program} {w : World} {A : Around} {s : Shared} {R : Result → Shared → Prop}
theorem zip_loop {S z TI TO i1 i2 l1 l2 : Addr} {xs ys : Array Value} {h₀ : Heap} (hh : A.handled = none) (D : ZipApart z TI TO i1 i2 l1 l2) (low : ∀ a, a = TI ∨ a = TO ∨ a = i1 ∨ a = i2 ∨ a = z → a < S) (nl1 : l1 ≠ S) (nl2 : l2 ≠ S) (hsz : xs.size = ys.size) (hn : xs.size ≤ sizeLine) (res : Value)
    (hR : ∀ h' tk acc c as, (∀ b o, b ≠ S → b ≠ z → b ≠ TO → b ≠ i1 → b ≠ i2 → h₀.get? b = some o → h'.get? b = some o) → h'.get? S = some { cls := .type "list", dict := none, data := .seq acc c, slots := #[] } → as.length = xs.size → ZipG xs ys S h' as →
      acc.toList = as.map Value.ref → R (.ok (.ret res)) { s with heap := h', toks := tk }) :
    ∀ (k i : Nat) (h : Heap) (tk c : Nat) (acc : Array Value) (as : List Addr), xs.size - i = k → i ≤ xs.size → ZipSt h z TI TO i1 i2 S i → IsPair h TI (.ref i1) (.ref i2) → h.IsListIter i1 l1 i → h.IsListIter i2 l2 i → h.IsList l1 xs → h.IsList l2 ys →
      (∀ b o, b ≠ S → b ≠ z → b ≠ TO → b ≠ i1 → b ≠ i2 → h₀.get? b = some o → h.get? b = some o) →
      h.get? S = some { cls := .type "list", dict := none, data := .seq acc c, slots := #[] } → acc.toList = as.map Value.ref → as.length = i → ZipG xs ys S h as →
      codeAny (model prog w) A (.builtin "list.extend.loop" ⟨[.ref S, .ref z, res], []⟩) R { s with heap := h, toks := tk } := by
  have nS : ∀ a, a = TI ∨ a = TO ∨ a = i1 ∨ a = i2 ∨ a = z → a ≠ S := fun a e => Nat.ne_of_lt (low a e)
  have hzS := nS z (.inr (.inr (.inr (.inr rfl))))
  have hTOS := nS TO (.inr (.inl rfl))
  have hi1S := nS i1 (.inr (.inr (.inl rfl)))
  have hi2S := nS i2 (.inr (.inr (.inr (.inl rfl))))
  intro k
  induction k with
  | zero =>
    intro i h tk c acc as hk hi hst hTI h1 h2 hl1 hl2 kp hS hacc hal hG
    refine codeAny_builtin PySem.F.entry_extend_loop ?_
    rw [Around.under_plainId PySem.F.plain_extend_loop _]
    show wpAny _ A.in1 (pyNext (.ref z) >>= _) _ _ _
    refine wpAny_bind (zipst_done (s := { s with heap := h, toks := tk }) (A := A.in1) hh D hst hTI h1 h2 hl1 hl2 (Array.getElem?_eq_none (by omega)) fun h' he => ?_)
    refine wpAny_pure (hR h' tk acc c as (fun b o c0 c1 c2 c3 c4 e => he b o c1 c2 c3 c4 (kp b o c0 c1 c2 c3 c4 e)) (he S _ hzS.symm hTOS.symm hi1S.symm hi2S.symm hS) (by omega) ⟨hG.rise, hG.above, fun j a hj => ?_⟩ hacc)
    obtain ⟨x, y, e1, e2, e3⟩ := hG.pairs j a hj
    have ab := hG.above a (List.mem_of_getElem? hj)
    have ne : ∀ b, b = TI ∨ b = TO ∨ b = i1 ∨ b = i2 ∨ b = z → a ≠ b := fun b e => Nat.ne_of_gt (Nat.lt_trans (low b e) ab)
    exact ⟨x, y, e1, e2, he a _ (ne z (.inr (.inr (.inr (.inr rfl))))) (ne TO (.inr (.inl rfl))) (ne i1 (.inr (.inr (.inl rfl)))) (ne i2 (.inr (.inr (.inr (.inl rfl))))) e3⟩
  | succ k ih =>
    intro i h tk c acc as hk hi hst hTI h1 h2 hl1 hl2 kp hS hacc hal hG
    have hlt : i < xs.size := by omega
    have hasz : acc.size = i := by rw [← Array.length_toList, hacc, List.length_map, hal]
    have hSl : S < h.objs.size := Heap.lt_size hS
    refine codeAny_builtin PySem.F.entry_extend_loop ?_
    rw [Around.under_plainId PySem.F.plain_extend_loop _]
    show wpAny _ A.in1 (pyNext (.ref z) >>= _) _ _ _
    refine wpAny_bind (zipst_item (s := { s with heap := h, toks := tk }) (S := S) D hSl hst hTI h1 h2 hl1 hl2 (Array.getElem?_eq_getElem hlt) (Array.getElem?_eq_getElem (by omega)) fun h' hst' a1 a2 a3 a4 a5 => ?_)
    dsimp only at hst' a1 a2 a3 a4 a5 ⊢
    have hS' := a5 S _ hzS.symm hTOS.symm hi1S.symm hi2S.symm hS
    have up : ∀ b o, b ≠ S → h'.get? b = some o → (h'.update S (Obj.mapSeq (·.push (Value.ref h.objs.size)))).get? b = some o := fun b o hb e => (Heap.get?_update_other _ _ (Ne.symm hb)).trans e
    show wpAny _ A.in1 (updateSeq S (·.push (Value.ref h.objs.size)) >>= _) _ _ _
    refine wpAny_bind ?_
    refine wpAny_updateSeq hS' rfl (wpAny_pure ⟨plainId_quiet PySem.F.plain_extend_loop _, ih (i + 1) _ tk _ (acc.push (Value.ref h.objs.size)) (as ++ [h.objs.size]) (by omega) hlt ?_ (up _ _ (nS TI (.inl rfl)) (a5 _ _ D.TIz D.TITO D.TIi1 D.TIi2 hTI)) (a1.at fun o e => up _ o hi1S e) (a2.at fun o e => up _ o hi2S e)
      (hl1.at fun o e => up _ o nl1 (a5 _ o D.l1z D.l1TO D.l1i1 D.l1i2 e)) (hl2.at fun o e => up _ o nl2 (a5 _ o D.l2z D.l2TO D.l2i1 D.l2i2 e)) (fun b o c0 c1 c2 c3 c4 e => up b o c0 (a5 b o c1 c2 c3 c4 (kp b o c0 c1 c2 c3 c4 e))) (Heap.get?_update_self _ hS' rfl) (by rw [Array.toList_push, hacc, List.map_append]; rfl) (by rw [List.length_append, hal]; rfl) ⟨?_, ?_, ?_⟩⟩) (by rw [hasz]; omega) (by show (acc.push (Value.ref h.objs.size)).size ≤ sizeLine + 1; rw [Array.size_push, hasz]; omega)
    · rcases hst' with ⟨e, _⟩ | ⟨T, f, oT, z1, z2, t1, t2, t3, t4⟩
      · exact absurd e (Nat.succ_ne_zero _)
      · exact .inr ⟨T, f, oT, up _ _ hzS z1, up _ _ t4 z2, t1, t2, t3, t4⟩
    · refine List.pairwise_append.mpr ⟨hG.rise, List.pairwise_singleton _ _, fun a ha b hb => ?_⟩
      rw [List.mem_singleton.mp hb]
      obtain ⟨j, hj⟩ := List.mem_iff_getElem?.mp ha
      obtain ⟨_, _, _, _, e⟩ := hG.pairs j a hj
      exact Heap.lt_size e
    · intro a ha
      rcases List.mem_append.mp ha with ha | ha
      · exact hG.above a ha
      · rw [List.mem_singleton.mp ha]; exact hSl
    · intro j b hj
      rcases Nat.lt_trichotomy j as.length with q | q | q
      · rw [List.getElem?_append_left q] at hj
        obtain ⟨x, y, e1, e2, e3⟩ := hG.pairs j b hj
        have ab := hG.above b (List.mem_of_getElem? hj)
        have ne : ∀ d, d = TI ∨ d = TO ∨ d = i1 ∨ d = i2 ∨ d = z → b ≠ d := fun d e => Nat.ne_of_gt (Nat.lt_trans (low d e) ab)
        exact ⟨x, y, e1, e2, up b _ (Nat.ne_of_gt ab) (a5 b _ (ne z (.inr (.inr (.inr (.inr rfl))))) (ne TO (.inr (.inl rfl))) (ne i1 (.inr (.inr (.inl rfl)))) (ne i2 (.inr (.inr (.inr (.inl rfl))))) e3)⟩
      · subst q
        have hb : h.objs.size = b := by simpa using hj
        subst hb
        exact ⟨_, _, by rw [hal]; exact Array.getElem?_eq_getElem hlt, by rw [hal]; exact Array.getElem?_eq_getElem (by omega), up _ _ (Nat.ne_of_gt hSl) a3⟩
      · have hnone : (as ++ [h.objs.size])[j]? = none := List.getElem?_eq_none (by rw [List.length_append, List.length_singleton]; omega)
        rw [hnone] at hj; cases hj
end
end L2
namespace L2
open PySem PySem.Spec PyProof.Rows
section
variable {prog : Program} {w : World} {A : Around} {E : Value → Shared → Prop} {s : Shared}
theorem zip_extend {R : Result → Shared → Prop} {S z TI TO i1 i2 l1 l2 : Addr} {xs ys : Array Value} {c₀ : Nat} {res : Value} (hh : A.handled = none) (D : ZipApart z TI TO i1 i2 l1 l2) (low : ∀ a, a = TI ∨ a = TO ∨ a = i1 ∨ a = i2 ∨ a = z → a < S) (nl1 : l1 ≠ S) (nl2 : l2 ≠ S) (hsz : xs.size = ys.size) (hn : xs.size ≤ sizeLine)
    (hz : IsZip s.heap z TI TO .none) (hTO : ∃ a b, IsPair s.heap TO a b) (hTI : IsPair s.heap TI (.ref i1) (.ref i2)) (h1 : s.heap.IsListIter i1 l1 0) (h2 : s.heap.IsListIter i2 l2 0) (hl1 : s.heap.IsList l1 xs) (hl2 : s.heap.IsList l2 ys)
    (hS : s.heap.get? S = some { cls := .type "list", data := .seq #[] c₀ })
    (hR : ∀ h' tk acc c as, (∀ b o, b ≠ S → b ≠ z → b ≠ TO → b ≠ i1 → b ≠ i2 → s.heap.get? b = some o → h'.get? b = some o) → h'.get? S = some { cls := .type "list", dict := none, data := .seq acc c, slots := #[] } → as.length = xs.size → ZipG xs ys S h' as →
      acc.toList = as.map Value.ref → R (.ok (.ret res)) { s with heap := h', toks := tk }) :
    wpAny (model prog w) A.in1 (Builtin.List.listExtendWith (.ref S) (.ref z) res)
      (fun fin s' => match fin with | .done f => R (.ok f) s' | .again c' => c'.quiet = true ∧ codeAny (model prog w) A c' R s') (fun e s' => R (.error e) s') s := by
  have tz : s.TypeIs (.ref z) "zip" := ⟨_, hz, rfl⟩
  have hSz : S ≠ z := Nat.ne_of_gt (low z (.inr (.inr (.inr (.inr rfl)))))
  have key : ∀ (h : Heap) (c₁ : Nat), (∀ b o, b ≠ S → s.heap.get? b = some o → h.get? b = some o) → h.get? S = some { cls := .type "list", data := .seq #[] c₁ } → codeAny (model prog w) A (.builtin "list.extend.loop" ⟨[.ref S, .ref z, res], []⟩) R { s with heap := h } := fun h c₁ hk hS₁ => by
    have up : ∀ a o, (a = TI ∨ a = TO ∨ a = i1 ∨ a = i2 ∨ a = z) → s.heap.get? a = some o → h.get? a = some o := fun a o e q => hk a o (Nat.ne_of_lt (low a e)) q
    obtain ⟨a, b, hTO⟩ := hTO
    exact zip_loop (s := s) (h₀ := s.heap) hh D low nl1 nl2 hsz hn res hR xs.size 0 h s.toks c₁ #[] [] (Nat.sub_zero _) (Nat.zero_le _) (.inl ⟨rfl, up _ _ (.inr (.inr (.inr (.inr rfl)))) hz, a, b, up _ _ (.inr (.inl rfl)) hTO⟩) (up _ _ (.inl rfl) hTI) (h1.at fun o e => up _ o (.inr (.inr (.inl rfl))) e) (h2.at fun o e => up _ o (.inr (.inr (.inr (.inl rfl)))) e)
      (hl1.at fun o e => hk _ o nl1 e) (hl2.at fun o e => hk _ o nl2 e) (fun b o c0 _ _ _ _ e => hk b o c0 e) hS₁ rfl rfl ⟨List.Pairwise.nil, (fun _ ha => nomatch ha), (fun j a hj => by simp at hj)⟩
  unfold Builtin.List.listExtendWith
  refine wpAny_bind (wpAny_typeOf tz ?_)
  have e1 : Builtin.List.listSameRef (.ref S) (.ref z) = false := by simp [Builtin.List.listSameRef, hSz]
  rw [if_neg (by rw [e1]; decide)]
  refine wpAny_bind (wpAny_pyIter_zip hz (wpAny_bind (wpAny_holding ?_)))
  unfold Builtin.List.listLengthHint
  refine wpAny_bind (wpAny_specialOf tz zip_nolen ?_)
  show wpAny _ A.in1 (specialOf (Value.ref z) (Str.ofString "__length_hint__") >>= _) _ _ _
  refine wpAny_bind (wpAny_specialOf tz zip_nohint ?_)
  refine wpAny_pure ?_
  rw [if_pos (show (true || _) = true from rfl)]
  refine wpAny_bind (wpAny_rule ?_)
  refine wpAny_bind ?_
  show wpAny _ _ (updateSeq S (·.push .none) >>= fun _ => updateSeq S (·.pop)) _ _ _
  refine wpAny_bind (wpAny_updateSeq hS rfl ?_)
  have hS₂ := Heap.get?_update_self (Obj.mapSeq (·.push Value.none)) hS rfl
  refine wpAny_updateSeq (hz := by seq_fits) hS₂ rfl ?_
  have hS₃ := Heap.get?_update_self (Obj.mapSeq (·.pop)) hS₂ rfl
  refine wpAny_pure ⟨plainId_quiet PySem.F.plain_extend_loop _, key _ _ (fun b o hb e => ?_) hS₃⟩
  exact (Heap.get?_update_other _ _ (Ne.symm hb)).trans ((Heap.get?_update_other _ _ (Ne.symm hb)).trans e)
theorem call_list_zip {z TI TO i1 i2 l1 l2 : Addr} {xs ys : Array Value} {Q : Value → Shared → Prop} (hh : A.handled = none) (D : ZipApart z TI TO i1 i2 l1 l2) (low : ∀ a, a = TI ∨ a = TO ∨ a = i1 ∨ a = i2 ∨ a = z → a < s.heap.objs.size) (hsz : xs.size = ys.size) (hn : xs.size ≤ sizeLine)
    (hz : IsZip s.heap z TI TO .none) (hTO : ∃ a b, IsPair s.heap TO a b) (hTI : IsPair s.heap TI (.ref i1) (.ref i2)) (h1 : s.heap.IsListIter i1 l1 0) (h2 : s.heap.IsListIter i2 l2 0) (hl1 : s.heap.IsList l1 xs) (hl2 : s.heap.IsList l2 ys)
    (hQ : ∀ h' tk acc c as, (∀ b o, b ≠ z → b ≠ TO → b ≠ i1 → b ≠ i2 → s.heap.get? b = some o → h'.get? b = some o) → h'.get? s.heap.objs.size = some { cls := .type "list", dict := none, data := .seq acc c, slots := #[] } → as.length = xs.size → ZipG xs ys s.heap.objs.size h' as →
      acc.toList = as.map Value.ref → Q (.ref s.heap.objs.size) { s with heap := h', toks := tk }) :
    wpAny (model prog w) A (call (.type "list") [.ref z]) Q E s := by
  refine callType_codes (Q₁ := fun obj s₁ => obj = .ref s.heap.objs.size ∧ s₁ = { s with heap := s.heap.push { cls := .type "list", data := .seq #[] } }) PySem.F.called_list (PySem.F.typeCall_list_1 _) PySem.F.entry_list_init (code_list_new _ ⟨rfl, rfl⟩) fun obj s₁ h₁ => ?_
  obtain ⟨rfl, rfl⟩ := h₁
  have lt1 : l1 < s.heap.objs.size := by obtain ⟨o, ho, _⟩ := hl1; exact Heap.lt_size ho
  have lt2 : l2 < s.heap.objs.size := by obtain ⟨o, ho, _⟩ := hl2; exact Heap.lt_size ho
  generalize hz0 : s.heap.objs.size = S at hQ low lt1 lt2 ⊢
  have hS : (s.heap.push { cls := .type "list", data := .seq #[] }).get? S = some { cls := .type "list", data := .seq #[] } := by rw [← hz0]; exact Heap.get?_push_size _ rfl
  refine ⟨⟨_, hS, rfl⟩, PySem.F.args_list_init_2 _ _, ?_⟩
  show wpAny _ _ (Builtin.List.listItems (.ref S) >>= fun old => Builtin.List.listUpdate (.ref S) (fun _ => #[]) >>= fun _ => letGo old.toList.reverse >>= fun _ => Builtin.List.listExtendWith (.ref S) (.ref z) .none) _ _ _
  refine wpAny_bind ?_
  unfold Builtin.List.listItems
  refine wpAny_bind (wpAny_seqItems hS rfl (wpAny_pure ?_))
  show wpAny _ _ (updateSeq S (fun _ => #[]) >>= fun _ => letGo (#[] : Array Value).toList.reverse >>= fun _ => Builtin.List.listExtendWith (.ref S) (.ref z) .none) _ _ _
  refine wpAny_bind (wpAny_updateSeq hS rfl ?_)
  have hS2 := Heap.get?_update_self (Obj.mapSeq (fun _ => (#[] : Array Value))) hS rfl
  have kp : ∀ b o, b ≠ S → s.heap.get? b = some o → ((s.heap.push { cls := .type "list", data := .seq #[] }).update S (Obj.mapSeq (fun _ => (#[] : Array Value)))).get? b = some o := fun b o hb e => (Heap.get?_update_other _ _ (Ne.symm hb)).trans (Heap.get?_push_of_some _ e)
  have kl : ∀ b o, (b = TI ∨ b = TO ∨ b = i1 ∨ b = i2 ∨ b = z) → s.heap.get? b = some o → ((s.heap.push { cls := .type "list", data := .seq #[] }).update S (Obj.mapSeq (fun _ => (#[] : Array Value)))).get? b = some o := fun b o e q => kp b o (Nat.ne_of_lt (low b e)) q
  refine wpAny_bind (wpAny_letGo ?_)
  obtain ⟨a, b, hTO⟩ := hTO
  refine zip_extend (A := A.in1) hh D low (Nat.ne_of_lt lt1) (Nat.ne_of_lt lt2) hsz hn (kl _ _ (.inr (.inr (.inr (.inr rfl)))) hz) ⟨a, b, kl _ _ (.inr (.inl rfl)) hTO⟩ (kl _ _ (.inl rfl) hTI) (h1.at fun o e => kl _ o (.inr (.inr (.inl rfl))) e) (h2.at fun o e => kl _ o (.inr (.inr (.inr (.inl rfl)))) e) (hl1.at fun o e => kp _ o (Nat.ne_of_lt lt1) e) (hl2.at fun o e => kp _ o (Nat.ne_of_lt lt2) e) hS2 fun h' tk acc c as hk hS' hl hG hacc => ?_
  refine ⟨rfl, hQ h' tk acc c as (fun b o c1 c2 c3 c4 e => ?_) hS' hl hG hacc⟩
  have hbS : b ≠ S := by rw [← hz0]; exact Nat.ne_of_lt (Heap.lt_size e)
  exact hk b o hbS c1 c2 c3 c4 (kp b o hbS e)
end
section
variable {X : Cx} {l l2 : Expr} {t : TA} {p p2 pos pos2 : Pos}
def tLstZip (K : PySem.W.Frag) (t : TA) : TE := fun σ H Q => t σ H fun vs H1 => ∃ (a b : Addr) (xs ys : List V), vs = [.ref a, .ref b] ∧ SqL K H1 a xs ∧ SqL K H1 b ys ∧ xs.length = ys.length ∧
  ∀ (H2 : Hp) (L : Addr) (ts : List Addr), Same H1 H2 → H1 L = none → H2 L = some (.lst (ts.map V.ref)) → Paired (fun t (p : V × V) => H2 t = some (.tup [p.1, p.2])) ts (xs.zip ys) → Q (.ref L) H2
theorem boot_zip' : bootBuiltins "zip" = some (.type "zip") := by decide +kernel
theorem pe_lstZip (hc : X.calm = true) (hg1 : Gl X "list") (hm1 : X.mg "list" = none) (hg2 : Gl X "zip") (hm2 : X.mg "zip" = none) (hl : PA X [l, l2] t)
    (h1 : starEach [.Call (.Name "zip" p2) [l, l2] [] pos2] X.env = [(false, eval (.Call (.Name "zip" p2) [l, l2] [] pos2) X.env)] := by rfl)
    (hs : starEach [l, l2] X.env = (false, eval l X.env) :: starEach [l2] X.env := by rfl) (hp : (backTo pos2 (starEach [l2] X.env)).any (·.1) = false := by rfl) : PE X (.Call (.Name "list" p) [.Call (.Name "zip" p2) [l, l2] [] pos2] [] pos) (tLstZip X.K t) := by
  intro pins s σ H Q I h
  refine wpAny_Call_Name_kw (ld_blt I hg1 hm1 PyProof.Rows.boot_list ?_)
  refine PyProof.Rows.callWith_type1 ?_ h1 rfl
  rw [h1]
  show wpAny _ _ (spliced ((false, eval (.Call (.Name "zip" p2) [l, l2] [] pos2) X.env) :: backTo pos [])) _ _ s
  refine Calls.spliced_cons (wpAny_Call_Name_kw (ld_blt I hg2 hm2 boot_zip' ?_))
  refine PyProof.Rows.callWith_type1 (thn (hl pos2 pins s σ H _ I h) fun us s1 ⟨vs, H1, I1, r1, q1⟩ => ?_) hs hp
  obtain ⟨a, b, xs, ys, rfl, hq, hq2, hlen, q⟩ := q1
  obtain ⟨u, u', rfl, ru, ru'⟩ := vals2 r1
  cases ru
  cases ru'
  obtain ⟨its, rv, pl, hz⟩ := I1.list hq
  obtain ⟨its2, rv2, pl2, hz2⟩ := I1.list hq2
  have ly := rv.length
  have ly2 := rv2.length
  have la : a < s1.heap.objs.size := list_lt pl.isList
  have lb : b < s1.heap.objs.size := list_lt pl2.isList
  refine call_zip_2 pl.isList pl2.isList fun h' a1 a2 a3 a4 a5 a6 hk => Calls.spliced_nil ?_
  refine call_list_zip (s := { s1 with heap := h' }) (I1.ok.hd hc) (z := s1.heap.objs.size + 4) (TI := s1.heap.objs.size + 2) (TO := s1.heap.objs.size + 3) (i1 := s1.heap.objs.size) (i2 := s1.heap.objs.size + 1) (by constructor <;> (unfold Addr at *; omega)) (fun c e => by show c < h'.objs.size; rw [a6]; unfold Addr at *; omega) (xs := its.toArray) (ys := its2.toArray) (by rw [List.size_toArray, List.size_toArray]; omega) (by rw [List.size_toArray]; omega) a1 ⟨_, _, a3⟩ a2 a4 a5 (pl.isList.at fun o e => hk _ o e) (pl2.isList.at fun o e => hk _ o e) fun h2 tk acc c as kk hL hla hG hacc => ?_
  have e6 : h'.objs.size = s1.heap.objs.size + 5 := a6
  generalize hz1 : h'.objs.size = z1 at hL hG e6 ⊢
  rw [List.size_toArray] at hla
  have kept : ∀ b ob, s1.heap.get? b = some ob → h2.get? b = some ob := fun b ob e => by
    have := Heap.lt_size e
    exact kk b ob (by unfold Addr at *; omega) (by unfold Addr at *; omega) (by unfold Addr at *; omega) (by unfold Addr at *; omega) (hk b ob e)
  have asnd : as.Nodup := hG.rise.imp fun {a b} z e => by rw [e] at z; exact Nat.lt_irrefl _ z
  have up : ∀ a ∈ as, z1 < a := fun a m => hG.above a m
  let os : List HO := (xs.zip ys).map fun p => HO.tup [p.1, p.2]
  have hfr : ∀ b, b < s1.heap.objs.size → upd (layH H1 as os) z1 (.lst (as.map V.ref)) b = H1 b := fun b lb => by
    rw [upd_ne (show b ≠ z1 by unfold Addr at *; omega), layH_not as os fun m => by have := up b m; unfold Addr at *; omega]
  have sm : Same H1 (upd (layH H1 as os) z1 (.lst (as.map V.ref))) := fun b ob e => by rw [hfr b (I1.hok.lt e)]; exact e
  have lz : as.length = (xs.zip ys).length := by rw [List.length_zip]; omega
  have tupAt : ∀ (j : Nat) (a : Addr) (p : V × V), as[j]? = some a → (xs.zip ys)[j]? = some p → ∃ x y : Value, RelV p.1 x ∧ RelV p.2 y ∧ h2.get? a = some { cls := .type "tuple", data := .seq #[x, y] } := fun j a p ea ep => by
    obtain ⟨x, y, e1, e2, e3⟩ := hG.pairs j a ea
    obtain ⟨p1, p2⟩ := List.getElem?_zip_eq_some.mp ep
    obtain ⟨u1, b1, r1⟩ := rv.get p1
    obtain ⟨u2, b2, r2⟩ := rv2.get p2
    rw [List.getElem?_toArray] at e1 e2
    rw [b1] at e1
    rw [b2] at e2
    cases e1
    cases e2
    exact ⟨_, _, r1, r2, e3⟩
  refine ⟨.ref z1, _, I1.grown (t' := tk) kept sm hfr (fun b ob hn e => ?_), rfl, q _ z1 as sm (I1.hok.fresh (by unfold Addr at *; omega)) upd_same ?_⟩
  · by_cases cc : b = z1
    · subst cc
      rw [upd_same] at e
      cases e
      refine ⟨by rw [List.length_map, lz, List.length_zip]; omega, acc.toList, c, ?_, by rw [Array.toArray_toList]; exact hL⟩
      rw [hacc]
      exact paired_map2 _ fun a _ => rfl
    · rw [upd_ne cc] at e
      rcases layH_some e with z | ⟨j, e1, e2⟩
      · rw [hn] at z; cases z
      · have e2' : ((xs.zip ys).map fun p => HO.tup [p.1, p.2])[j]? = some ob := e2
        rw [List.getElem?_map] at e2'
        obtain ⟨pp, hp, rfl⟩ := Option.map_eq_some_iff.mp e2'
        obtain ⟨x, y, r1, r2, g⟩ := tupAt j b pp e1 hp
        exact ⟨by show 2 ≤ _; rw [sizeLine_eq]; omega, [_, _], .cons r1 (.cons r2 .nil), _, g, rfl, _, rfl⟩
  · have key : ∀ (j : Nat) (a : Addr) (p : V × V), as[j]? = some a → (xs.zip ys)[j]? = some p → upd (layH H1 as os) z1 (.lst (as.map V.ref)) a = some (.tup [p.1, p.2]) := fun j a p e1 e2 => by
      rw [upd_ne (show a ≠ z1 from Nat.ne_of_gt (up a (List.mem_of_getElem? e1)))]
      exact layH_at asnd e1 (by show ((xs.zip ys).map fun p => HO.tup [p.1, p.2])[j]? = _; rw [List.getElem?_map, e2]; rfl)
    generalize upd (layH H1 as os) z1 (.lst (as.map V.ref)) = H9 at key ⊢
    have main : ∀ (as' : List Addr) (T' : List (V × V)), as'.length = T'.length → (∀ (j : Nat) (a : Addr) (p : V × V), as'[j]? = some a → T'[j]? = some p → H9 a = some (.tup [p.1, p.2])) → Paired (fun t (p : V × V) => H9 t = some (.tup [p.1, p.2])) as' T' := by
      intro as'
      induction as' with
      | nil => intro T' hl' _; cases T' with
        | nil => exact .nil
        | cons _ _ => cases hl'
      | cons a r ih => intro T' hl' hk'; cases T' with
        | nil => cases hl'
        | cons p T' => exact .cons (hk' 0 a p rfl rfl) (ih T' (by simpa using hl') fun j a p e1 e2 => hk' (j + 1) a p e1 e2)
    exact main as _ lz key
end
end L2
namespace L2
open PySem PySem.Spec PyProof.Rows
theorem argI (f : Nat → Int) : ∀ k, argBest (fun i j => decide (f i < f j)) k ≤ k ∧ ∀ i, i ≤ k → f (argBest (fun i j => decide (f i < f j)) k) ≤ f i
  | 0 => ⟨Nat.le_refl _, fun i hi => by obtain rfl : i = 0 := (by omega); exact Int.le_refl _⟩
  | k + 1 => by
    obtain ⟨h1, h2⟩ := argI f k
    have e : argBest (fun i j => decide (f i < f j)) (k + 1) = if decide (f (k + 1) < f (argBest (fun i j => decide (f i < f j)) k)) = true then k + 1 else argBest (fun i j => decide (f i < f j)) k := rfl
    rw [e]
    by_cases c : f (k + 1) < f (argBest (fun i j => decide (f i < f j)) k)
    · rw [if_pos (decide_eq_true c)]
      refine ⟨Nat.le_refl _, fun i hi => ?_⟩
      by_cases q : i = k + 1
      · rw [q]; exact Int.le_refl _
      · have := h2 i (by omega); omega
    · rw [if_neg (by rw [decide_eq_false c]; exact Bool.false_ne_true)]
      refine ⟨by omega, fun i hi => ?_⟩
      by_cases q : i = k + 1
      · rw [q]; omega
      · exact h2 i (by omega)
section
variable {X : Cx}
theorem call_min1 (hc : X.calm = true) : CallR X (.builtin "min") (fun xs H Q => ∃ (p : Addr) (ns : List Int), xs = [.ref p] ∧ SqL X.K H p (ns.map V.int) ∧ 0 < ns.length ∧ ∀ m, m ∈ ns → (∀ n ∈ ns, m ≤ n) → Q (.int m) H) := by
  intro pins s σ H xs us Q I r h
  obtain ⟨p, ns, rfl, hq, hz0, q⟩ := h
  obtain ⟨u, rfl, rx⟩ := vals1 r
  cases rx
  obtain ⟨its, r', pl, _⟩ := I.list hq
  have hlen := r'.length
  rw [List.length_map] at hlen
  have hlt := list_lt pl.isList
  refine call_function_tree F.kind_min F.plain_min F.entry_min (F.args_min1 _) ?_
  show wpAny _ X.A.in1 (Builtin.Builtins.bindParams "min" ["key", "default"] 0 ⟨[], []⟩ >>= _) _ _ s
  refine wpAny_bind (wpAny_of_eq (show Builtin.Builtins.bindParams "min" ["key", "default"] 0 ⟨[], []⟩ = pure [none, none] from rfl) ?_)
  refine wpAny_bind (wpAny_pure ?_)
  refine wpAny_bind (wpAny_pyIter_list pl.isList ?_)
  refine wpAny_bind (wpAny_newObj_type ?_)
  have nm : (toString "min" ++ toString ".loop" : String) = "min.loop" := by decide
  rw [nm]
  have e1 : (s.heap.push { cls := .type "list_iterator", data := .fields #[.ref p, .int 0 0] }).objs.size = s.heap.objs.size + 1 := Heap.size_push ..
  have W := Walks.list (prog := X.prog) (w := X.w) (A := X.A.in1) (I.ok.hd hc) s.heap.objs.size p (Nat.ne_of_lt hlt) its.toArray
  have hval : ∀ i v, its.toArray[i]? = some v → ∃ t, v = Value.int (ns.getD i 0) t := fun i v e => item_int r' e
  obtain ⟨b1, b2⟩ := argI (fun i => ns.getD i 0) (its.toArray.size - 1)
  rw [List.size_toArray] at b1 b2
  refine wpAny_pure ⟨plainId_quiet F.plain_min_loop _, codeAny_min_loop_first W (fun i j => decide (ns.getD i 0 < ns.getD j 0)) (CmpOf.ints_lt (fun i => ns.getD i 0) hval) _ (by rw [e1]; simp only [List.mem_cons, List.not_mem_nil, or_false, not_or]; exact ⟨Nat.ne_of_gt (Nat.lt_succ_self _), Nat.ne_of_gt (Nat.lt_succ_of_lt hlt)⟩) (by rw [List.size_toArray]; omega)
    ⟨⟨_, Heap.get?_push_of_some _ (Heap.get?_push_size _ rfl), rfl, rfl⟩, (pl.isList.push _).push _⟩ (Heap.get?_push_size _ rfl) fun v h' tk hP hk => ?_⟩
  obtain ⟨t, rfl⟩ := hval _ v hP
  rw [List.size_toArray]
  have me : ns.getD (argBest (fun i j => decide (ns.getD i 0 < ns.getD j 0)) (its.length - 1)) 0 ∈ ns := by
    rw [List.getD_eq_getElem?_getD, List.getElem?_eq_getElem (show argBest (fun i j => decide (ns.getD i 0 < ns.getD j 0)) (its.length - 1) < ns.length by omega)]
    exact List.getElem_mem _
  refine ⟨.int _, H, I.kept (t' := tk) fun b o e => hk b o (fun z => Nat.ne_of_lt (Heap.lt_size e) (List.mem_singleton.mp z)) (Nat.ne_of_lt (by show b < (s.heap.push _).objs.size; rw [e1]; exact Nat.lt_succ_of_lt (Heap.lt_size e))) (Heap.get?_push_of_some _ (Heap.get?_push_of_some _ e)), ⟨t, rfl⟩, q _ me fun n hn => ?_⟩
  obtain ⟨i, hi, rfl⟩ := List.mem_iff_getElem.mp hn
  have := b2 i (by omega)
  rw [List.getD_eq_getElem?_getD (l := ns) (i := i), List.getElem?_eq_getElem hi] at this
  exact this
end
end L2
namespace L2
open PySem PySem.Spec PyProof.Rows
section
variable {prog : Program} {w : World} {A : Around} {E : Value → Shared → Prop} {s : Shared} {R : Result → Shared → Prop}
abbrev mkK (prog : Program) (w : World) := mixKind prog w
theorem dictk_loop {D it l : Addr} {items : Array Value} {xs : List (Key × Value × Value)} {h₀ : Heap} (hh : A.handled = none) (nDi : D ≠ it) (fD : h₀.objs.size ≤ D) (fi : h₀.objs.size ≤ it)
    (hl : h₀.IsList l items) (hx : ∀ (j : Nat) x, xs[j]? = some x → ∃ t o c, items[j]? = some (.ref t) ∧ h₀.get? t = some o ∧ o.cls = .type "tuple" ∧ o.data = .seq #[x.2.1, x.2.2] c ∧ (mkK prog w).is x.1 x.2.1 = true)
    (hn : xs.length = items.size) (nd : (xs.map (·.1)).Nodup) (hz : xs.length ≤ sizeLine)
    (hR : ∀ h' tk, (∀ b o, h₀.get? b = some o → h'.get? b = some o) → h'.DictOf (mkK prog w) D (xs.map fun x => (x.1, x.2.2)) → R (.ok (.ret .none)) { s with heap := h', toks := tk }) :
    ∀ (k i : Nat) (h : Heap) (tk : Nat), items.size - i = k → i ≤ items.size → (∀ b o, h₀.get? b = some o → h.get? b = some o) → h.IsListIter it l i → h.DictOf (mkK prog w) D ((xs.take i).map fun x => (x.1, x.2.2)) →
      codeAny (model prog w) A (.builtin "dict.update.loop" ⟨[.ref D, .ref it, rawInt i, .none], []⟩) R { s with heap := h, toks := tk } := by
  have neD : ∀ b o, h₀.get? b = some o → b ≠ D := fun b o e => Nat.ne_of_lt (Nat.lt_of_lt_of_le (Heap.lt_size e) fD)
  have neI : ∀ b o, h₀.get? b = some o → b ≠ it := fun b o e => Nat.ne_of_lt (Nat.lt_of_lt_of_le (Heap.lt_size e) fi)
  intro k
  induction k with
  | zero =>
    intro i h tk hk hi kp hit hd
    refine codeAny_builtin entry_upd_loop ?_
    rw [Around.under_plainId plain_upd_loop _]
    show wpAny _ A.in1 (pyNext (.ref it) >>= _) _ _ _
    refine wpAny_bind (wpAny_pyNext_list_end (s := { s with heap := h, toks := tk }) (A := A.in1) hh hit (hl.at fun o e => kp _ o e) (Array.getElem?_eq_none (by omega)) fun h' he => ?_)
    show wpAny _ _ (Builtin.Dict.addKeywords D [] >>= _) _ _ _
    refine wpAny_bind (wpAny_pure (wpAny_pure (hR h' tk (fun b o e => he b o (neI b o e) (kp b o e)) ?_)))
    rw [List.take_of_length_le (by omega)] at hd
    exact hd.extBut he nDi
  | succ k ih =>
    intro i h tk hk hi kp hit hd
    have lt : i < xs.length := by omega
    obtain ⟨t, o, c, e1, e2, e3, e4, e5⟩ := hx i _ (List.getElem?_eq_getElem lt)
    refine codeAny_builtin entry_upd_loop ?_
    rw [Around.under_plainId plain_upd_loop _]
    show wpAny _ A.in1 (pyNext (.ref it) >>= _) _ _ _
    refine wpAny_bind (wpAny_pyNext_list_item (s := { s with heap := h, toks := tk }) (A := A.in1) hit (hl.at fun o e => kp _ o e) e1 fun h1 hit1 hs1 => ?_)
    refine wpAny_bind (wpAny_holding ?_)
    have kp1 : ∀ b o, h₀.get? b = some o → h1.get? b = some o := fun b o e => (hs1.2 b (neI b o e)).trans (kp b o e)
    have hd1 : h1.DictOf (mkK prog w) D ((xs.take i).map fun x => (x.1, x.2.2)) := hd.sameBut hs1 nDi
    have et := kp1 _ _ e2
    show wpAny _ A.in1 (tryCatch (Builtin.Dict.pairItems (Value.ref t)) _ >>= _) _ _ _
    refine wpAny_bind (wpAny_tryCatch ?_)
    unfold Builtin.Dict.pairItems
    refine wpAny_bind (wpAny_typeOf (T := "tuple") ⟨o, et, e3⟩ ?_)
    rw [if_pos (by decide)]
    refine wpAny_bind (wpAny_seqItems et e4 (wpAny_pure ?_))
    show wpAny _ A.in1 (holding [xs[i].2.1, xs[i].2.2] (dictSet D xs[i].2.1 xs[i].2.2)) _ _ _
    refine wpAny_holding (wpAny_dictSet_pairs (knd := mkK prog w) (s := { s with heap := h1, toks := tk }) e5 hd1 (fun h2 hd2 hs2 => ?_) (by rw [List.length_map, List.length_take]; omega))
    have nn : ¬ (((xs.take i).map fun x => (x.1, x.2.2)).any (fun kv => decide (kv.1 = xs[i].1))) = true := fun z => by
      obtain ⟨kv, hkv, ekv⟩ := List.any_eq_true.mp z
      obtain ⟨x, hx', rfl⟩ := List.mem_map.mp hkv
      have ex : x.1 = xs[i].1 := of_decide_eq_true ekv
      obtain ⟨j, hj⟩ := List.mem_iff_getElem?.mp hx'
      have lj := (List.getElem?_eq_some_iff.mp hj).1
      rw [List.length_take] at lj
      rw [List.getElem?_take_of_lt (by omega)] at hj
      have a1 : (xs.map (·.1))[j]? = some xs[i].1 := by rw [List.getElem?_map, hj]; exact congrArg some ex
      have a2 : (xs.map (·.1))[i]? = some xs[i].1 := by rw [List.getElem?_map, List.getElem?_eq_getElem lt]; rfl
      have := (List.getElem?_inj (by rw [List.length_map]; exact lt) nd).mp (a2.trans a1.symm)
      omega
    have es : stored ((xs.take i).map fun x => (x.1, x.2.2)) xs[i].1 xs[i].2.2 = (xs.take (i + 1)).map fun x => (x.1, x.2.2) := by
      unfold stored
      rw [if_neg nn, List.take_add_one, List.getElem?_eq_getElem lt, List.map_append]
      rfl
    rw [es] at hd2
    refine wpAny_pure ⟨plainId_quiet plain_upd_loop _, ?_⟩
    exact ih (i + 1) h2 _ (by omega) (by omega) (fun b o e => (hs2.2 b (neD b o e)).trans (kp1 b o e)) (hit1.at fun o e => (hs2.2 it nDi.symm).trans e) hd2
theorem call_dictk_pairs {l : Addr} {o : Obj} {items : Array Value} {c : Nat} {xs : List (Key × Value × Value)} {Q : Value → Shared → Prop} (hh : A.handled = none)
    (ho : s.heap.get? l = some o) (hoc : o.cls = .type "list") (hod : o.dict = none) (hdat : o.data = .seq items c)
    (hx : ∀ (j : Nat) x, xs[j]? = some x → ∃ t o c, items[j]? = some (.ref t) ∧ s.heap.get? t = some o ∧ o.cls = .type "tuple" ∧ o.data = .seq #[x.2.1, x.2.2] c ∧ (mkK prog w).is x.1 x.2.1 = true)
    (hn : xs.length = items.size) (nd : (xs.map (·.1)).Nodup) (hz : xs.length ≤ sizeLine)
    (hQ : ∀ h' tk, (∀ b o, s.heap.get? b = some o → h'.get? b = some o) → h'.DictOf (mkK prog w) s.heap.objs.size (xs.map fun x => (x.1, x.2.2)) → Q (.ref s.heap.objs.size) { s with heap := h', toks := tk }) :
    wpAny (model prog w) A (call (.type "dict") [.ref l]) Q E s := by
  refine callType_codes (Q₁ := fun obj s₁ => obj = .ref s.heap.objs.size ∧ s₁ = { s with heap := s.heap.push { cls := .type "dict", data := .dict #[] } }) F.kt_called_dict (F.kt_typeCall_dict_1 _) F.entry_dict_init (kt_code_dict_new _ ⟨rfl, rfl⟩) ?_
  rintro obj s₁ ⟨rfl, rfl⟩
  have hnew : (s.heap.push { cls := .type "dict", data := .dict #[] }).DictOf (mkK prog w) s.heap.objs.size [] := Heap.DictOf.new s.heap
  have ho' : (s.heap.push { cls := .type "dict", data := .dict #[] }).get? l = some o := Heap.get?_push_of_some _ ho
  refine ⟨hnew.typeIs, F.args_dict_init_2 _ _, ?_⟩
  unfold Builtin.«dict.__init__»
  refine wpAny_bind ?_
  unfold Builtin.Dict.selfAndRest
  refine wpAny_bind (wpAny_notOrdered_dict hnew.typeIs ?_)
  show wpAny _ _ (pure (s.heap.objs.size, [Value.ref l])) _ _ _
  refine wpAny_pure ?_
  show wpAny _ _ (Builtin.Dict.updateFrom "dict.__init__" s.heap.objs.size (.ref l) [] .none) _ _ _
  unfold Builtin.Dict.updateFrom
  refine wpAny_bind (wpAny_typeOf (T := "list") ⟨o, ho', hoc⟩ ?_)
  rw [if_pos (by decide)]
  refine wpAny_bind (getAttrQ_list (s := { s with heap := s.heap.push { cls := .type "dict", data := .dict #[] } }) ho' hoc hdat hod (by exact hh) fun h1 tk1 k1 => ?_)
  rw [if_pos (show (none : Option Value).isNone = true from rfl)]
  refine wpAny_bind (wpAny_rule ?_)
  have hl1 : h1.IsList l items := ⟨o, k1 _ _ ho', hoc, c, hdat⟩
  refine wpAny_bind (wpAny_pyIter_list (s := { s with heap := h1, toks := tk1 }) hl1 ?_)
  have kp : ∀ b o, s.heap.get? b = some o → (h1.push { cls := .type "list_iterator", data := .fields #[.ref l, .int 0 0] }).get? b = some o := fun b o e => Heap.get?_push_of_some _ (k1 b o (Heap.get?_push_of_some _ e))
  have hD1 : h1.DictOf (mkK prog w) s.heap.objs.size [] := hnew.at fun o e => k1 _ o e
  have ltD : s.heap.objs.size < h1.objs.size := by obtain ⟨_, _, _, d1, _⟩ := hD1; exact Heap.lt_size d1
  refine wpAny_pure ⟨plainId_quiet plain_upd_loop _, ?_⟩
  refine dictk_loop (A := A.in1) (s := s) (h₀ := s.heap) (xs := xs) hh (Nat.ne_of_lt ltD) (Nat.le_refl _) (Nat.le_of_lt ltD) ⟨o, ho, hoc, c, hdat⟩ hx hn nd hz (fun h' tk kk hd => ?_) items.size 0 _ _ (Nat.sub_zero _) (Nat.zero_le _) kp ⟨_, Heap.get?_push_size _ rfl, rfl, rfl⟩ (hD1.at fun o e => Heap.get?_push_of_some _ e)
  exact ⟨rfl, hQ h' tk kk hd⟩
end
section
variable {X : Cx}
theorem call_dictK (hc : X.calm = true) : CallR X (.type "dict") (fun vs H Q => ∃ (l : Addr) (ts : List Addr) (kvs : List (Key × V)), vs = [.ref l] ∧ H l = some (.lst (ts.map V.ref)) ∧ Paired (fun t (p : Key × V) => H t = some (.tup [kV p.1, p.2])) ts kvs ∧ (kvs.map (·.1)).Nodup ∧ ∀ D, H D = none → Q (.ref D) (upd H D (.dK kvs))) := by
  intro pins s σ H vs us Q I r h
  obtain ⟨l, ts, kvs, rfl, hl, pr, nd, q⟩ := h
  obtain ⟨u, rfl, rx⟩ := vals1 r
  cases rx
  obtain ⟨z, its, n, rv, hlen, e⟩ := I.lstM hl
  rw [List.length_map] at z hlen
  obtain ⟨xs, hxs, hat⟩ : ∃ xs : List (Key × Value × Value), Paired (fun (p : Key × V) (q : Key × Value × Value) => p.1 = q.1 ∧ RelV p.2 q.2.2) kvs xs ∧ ∀ (j : Nat) x, xs[j]? = some x → ∃ t o c, its[j]? = some (.ref t) ∧ s.heap.get? t = some o ∧ o.cls = .type "tuple" ∧ o.data = .seq #[x.2.1, x.2.2] c ∧ RelV (kV x.1) x.2.1 := by
    clear hl e q nd hlen z
    induction pr generalizing its with
    | nil => exact ⟨[], .nil, fun j x e => by simp at e⟩
    | @cons t p ts kvs hp _ ih =>
      cases rv with
      | @cons _ v0 _ its r0 rt =>
        obtain ⟨xs, h1, h2⟩ := ih its rt
        obtain ⟨_, its2, rv2, o, o1, o2, c, o3⟩ := (show ObjOk X.prog X.w H s.heap t (.tup [kV p.1, p.2]) from I.hok t _ hp)
        obtain ⟨u1, u2, rfl, ru1, ru2⟩ := rv2.two
        refine ⟨(p.1, u1, u2) :: xs, .cons ⟨rfl, ru2⟩ h1, fun j x e => ?_⟩
        cases j with
        | zero =>
          cases (show (p.1, u1, u2) = x from Option.some.inj e)
          have r0 : v0 = Value.ref t := r0
          exact ⟨t, o, c, by rw [r0]; rfl, o1, o2, o3, ru1⟩
        | succ j => exact h2 j x e
  have lx : xs.length = kvs.length := (Paired.length hxs).symm
  have lk : kvs.length = ts.length := (Paired.length pr).symm
  have ek : xs.map (·.1) = kvs.map (·.1) := by
    clear hat lx pr nd q lk
    induction hxs with
    | nil => rfl
    | cons hp _ ih => rw [List.map_cons, List.map_cons, ih, hp.1]
  have kv2 : KV kvs (xs.map fun x => (x.1, x.2.2)) := by
    clear hat lx pr nd q lk ek
    induction hxs with
    | nil => exact .nil
    | cons hp _ ih => exact .cons ⟨hp.1, hp.2⟩ ih
  refine call_dictk_pairs (A := X.A) (xs := xs) (I.ok.hd hc) e rfl rfl rfl (fun j x hj => ?_) (by rw [List.size_toArray]; omega) (by rw [ek]; exact nd) (by omega) fun h' tk kk hd => ?_
  · obtain ⟨t, o, c, e1, e2, e3, e4, e5⟩ := hat j x hj
    exact ⟨t, o, c, by rw [List.getElem?_toArray]; exact e1, e2, e3, e4, kV_is e5⟩
  · have f : H s.heap.objs.size = none := I.hok.fresh (Nat.le_refl _)
    have sysn : (s.heap.objs.size == sysModules) = false := by
      have := I.big
      exact beq_eq_false_iff_ne.mpr (Nat.ne_of_gt this)
    exact ⟨.ref s.heap.objs.size, _, I.laid (t' := tk) kk (Nat.le_refl _) (show ObjOk X.prog X.w _ h' _ (.dK kvs) from ⟨by omega, sysn, _, kv2, hd⟩), rfl, q _ f⟩
end
end L2
namespace L2
open PySem PySem.Spec PyProof.Rows
section
variable {X : Cx} {e : Expr} {te : TE} {p p2 pos pos2 : Pos}
def rngV (n : Nat) : List V := (List.range n).map fun (i : Nat) => V.int (i : Int)
theorem rng_vals : ∀ (n k : Nat) (l : List Value), l.length = n → (∀ i v, l[i]? = some v → ∃ t, v = Value.int (((k + i : Nat)) : Int) t) → Vals ((List.range' k n).map fun (i : Nat) => V.int (i : Int)) l
  | 0, k, [], _, _ => .nil
  | n + 1, k, v :: l, hl, h => by
    rw [List.range'_succ, List.map_cons]
    refine .cons ?_ (rng_vals n (k + 1) l (by simpa using hl) fun i v hv => ?_)
    · obtain ⟨t, ht⟩ := h 0 v rfl
      exact ⟨t, ht⟩
    · obtain ⟨t, ht⟩ := h (i + 1) v hv
      exact ⟨t, by rw [ht]; congr 2; omega⟩
def tLstRng (te : TE) : TE := fun σ H Q => te σ H fun x H1 => ∃ (n : Nat), x = .int (n : Int) ∧ n ≤ 1000 ∧ ∀ L : Addr, H1 L = none → Q (.ref L) (upd H1 L (.lst (rngV n)))
theorem pe_lstRng (hc : X.calm = true) (hg1 : Gl X "list") (hm1 : X.mg "list" = none) (hg2 : Gl X "range") (hm2 : X.mg "range" = none) (he : PE X e te)
    (h1 : starEach [.Call (.Name "range" p2) [e] [] pos2] X.env = [(false, eval (.Call (.Name "range" p2) [e] [] pos2) X.env)] := by rfl)
    (h2 : starEach [e] X.env = [(false, eval e X.env)] := by rfl) : PE X (.Call (.Name "list" p) [.Call (.Name "range" p2) [e] [] pos2] [] pos) (tLstRng te) := by
  intro pins s σ H Q I h
  refine wpAny_Call_Name_kw (ld_blt I hg1 hm1 PyProof.Rows.boot_list ?_)
  refine PyProof.Rows.callWith_type1 ?_ h1 rfl
  rw [h1]
  show wpAny _ _ (spliced ((false, eval (.Call (.Name "range" p2) [e] [] pos2) X.env) :: backTo pos [])) _ _ s
  refine Calls.spliced_cons (wpAny_Call_Name_kw (ld_blt I hg2 hm2 boot_range ?_))
  refine PyProof.Rows.callWith_type1 ?_ h2 rfl
  rw [h2]
  show wpAny _ _ (spliced ((false, eval e X.env) :: backTo pos2 [])) _ _ s
  refine Calls.spliced_cons (thn (he pins s σ H _ I h) fun u s1 ⟨x, H1, I1, rx, n, ex, hn, q⟩ => ?_)
  subst ex
  obtain ⟨t, rfl⟩ := rx
  refine Calls.spliced_nil (call_range_1 (Calls.spliced_nil ?_))
  refine call_list_range (A := X.A) (n := n) (I1.ok.hd hc) (IsRange.new ..) (small_one (by omega) (by omega) (by omega) (by omega)) (by rw [rangeSize_one]; split <;> omega) (by omega) fun h' tk acc' c' hk hS' hacc => ?_
  have ez : (s1.heap.push { cls := .type "range", data := .fields #[.int 0 s1.toks, .int (n : Int) t, .int 1 (s1.toks + 1)] }).objs.size = s1.heap.objs.size + 1 := size_push' ..
  simp only [ez] at hS' ⊢
  refine ⟨.ref (s1.heap.objs.size + 1), _, I1.laid (t' := tk) (fun b o e => hk b o (Heap.get?_push_of_some _ e)) (Nat.le_succ _) (show ObjOk X.prog X.w _ h' _ (.lst (rngV n)) from ⟨by unfold rngV; rw [List.length_map, List.length_range]; exact szOk (by omega), acc'.toList, c', ?_, by simpa using hS'⟩), rfl, q _ (I1.hok.fresh (Nat.le_succ _))⟩
  have := rng_vals n 0 acc'.toList (by rw [Array.length_toList]; exact hacc.1) fun i v hv => by
    rw [Array.getElem?_toList] at hv
    obtain ⟨t, ht⟩ := hacc.2 i v hv
    exact ⟨t, by rw [ht]; congr 1; omega⟩
  unfold rngV
  rw [List.range_eq_range']
  exact this
end
section
variable {X : Cx}
def rNeDK : R2 := fun x y H Q => ∃ a b kvs, x = .ref a ∧ y = .ref b ∧ H a = some (.dK kvs) ∧ H b = some (.dK kvs) ∧ (∀ k v, (k, v) ∈ kvs → ∃ i, v = .int i) ∧ Q (.bl false) H
theorem keq_self {A : Around} {s : Shared} {H : Hp} {kvs : List (Key × V)} {ys : List (Key × Value)} (ry : KV kvs ys) (nd : (ys.map (·.1)).Nodup) : ∀ {ks : List (Key × V)} {xs : List (Key × Value)}, KV ks xs → (∀ k v, (k, v) ∈ ks → valV kvs k = some v ∧ ∃ i, v = .int i) → PySem.W.KeqHits A s ys xs true := by
  intro ks xs r
  unfold KV at r
  induction r with
  | nil => intro _; exact .nil
  | @cons p q ks xs hp _ ih =>
    intro h
    obtain ⟨k, v⟩ := p
    obtain ⟨k', u⟩ := q
    obtain ⟨e1, rv⟩ := hp
    have e1 : k = k' := e1
    subst e1
    obtain ⟨e2, i, rfl⟩ := h k v List.mem_cons_self
    have q1 := ry.val k
    rw [e2] at q1
    obtain ⟨v1, z1, rv1⟩ := RelO.some_of q1
    obtain ⟨t1, w1⟩ := rv
    obtain ⟨t2, w2⟩ := rv1
    have w1 : u = Value.int i t1 := w1
    have he : SeqAt.EqAt A s u v1 true := by
      rw [w1, w2]
      have := SeqAt.EqAt.int_int (A := A) (s := s) i t1 i t2
      rwa [beq_self_eq_true] at this
    have := PySem.W.KeqHits.hit (A := A) (s := s) (kb := ys) z1 he (ih fun k v hm => h k v (List.mem_cons_of_mem _ hm))
    exact this
theorem op_neDK (hu : X.A.units + 64 < cLine) : OpR X (compareOp .NotEq) rNeDK := by
  intro pins s σ H x y v u Q I rx ry h
  obtain ⟨a, b, kvs, rfl, rfl, ha, hb, hi, q⟩ := h
  cases rx
  cases ry
  obtain ⟨_, sa, xs, ra, da⟩ := dk_of I.hok ha
  obtain ⟨_, sb, ys, rb, db⟩ := dk_of I.hok hb
  have nb : (ys.map (·.1)).Nodup := by obtain ⟨_, _, _, _, _, _, _, _, n⟩ := db; exact n
  have nk : (kvs.map (·.1)).Nodup := by rw [rb.keys]; exact nb
  have val : ∀ {l : List (Key × V)}, (l.map (·.1)).Nodup → ∀ k v, (k, v) ∈ l → valV l k = some v := fun {l} => by
    induction l with
    | nil => intro _ k v h; cases h
    | cons p l ih =>
      intro nd k v h
      obtain ⟨n1, n2⟩ := List.nodup_cons.mp nd
      obtain ⟨pk, pv⟩ := p
      rcases List.mem_cons.mp h with h | h
      · cases h; exact valV_pos rfl
      · rw [valV_neg fun z => n1 (by have z : pk = k := z; show pk ∈ _; rw [z]; exact List.mem_map.mpr ⟨_, h, rfl⟩)]
        exact ih n2 k v h
  have ll : xs.length = ys.length := by rw [← ra.length, ← rb.length]
  refine PySem.W.keq_ne sa sb da db (by omega) (fun _ => keq_self (H := H) rb nb ra fun k v hm => ⟨val nk k v hm, hi k v hm⟩) ?_
  rw [ll, beq_self_eq_true]
  exact ⟨.bl false, H, I, rfl, q⟩
end
end L2
namespace K56
open PySem L2
def sub (i j : Nat) : Stmt := (L2.clsBody (PySem.Challenge.pw_bellbook_k56_whole_no_ring_is_left.main.body.getD i (.Pass ⟨0, 0, 0, 0⟩))).getD j (.Pass ⟨0, 0, 0, 0⟩)
def top (i : Nat) : Stmt := PySem.Challenge.pw_bellbook_k56_whole_no_ring_is_left.main.body.getD i (.Pass ⟨0, 0, 0, 0⟩)
structure Bl (mg : Str → Option Value) : Prop where
  b_any : mg "any" = none
  b_bool : mg "bool" = none
  b_dict : mg "dict" = none
  b_int : mg "int" = none
  b_isinstance : mg "isinstance" = none
  b_len : mg "len" = none
  b_list : mg "list" = none
  b_max : mg "max" = none
  b_min : mg "min" = none
  b_range : mg "range" = none
  b_reversed : mg "reversed" = none
  b_sorted : mg "sorted" = none
  b_str : mg "str" = none
  b_tuple : mg "tuple" = none
  b_zip : mg "zip" = none
structure Co (mg : Str → Option Value) where
set_option genInjectivity false in
set_option genSizeOf false in
structure Er (K : PySem.W.Frag) (mg : Str → Option Value) where
  c_Ring : Addr
  c_Ways : Addr
  m_Ring : mg "Ring" = some (.ref c_Ring)
  m_Ways : mg "Ways" = some (.ref c_Ways)
  x_Ring : PySem.W.excIn K c_Ring [.type "ValueError", .type "Exception", .type "BaseException", .type "object"] "ValueError.__new__" = true
  e_Ring_Ring : PySem.W.exmOne K (.ref c_Ring) (.ref c_Ring) = some true
  i_Ring_Ring : PySem.W.kitOne K (.ref c_Ring) (.ref c_Ring) = some true
  k_Ring : Bk.ExcK K c_Ring
  cl_Ways : L2.Cls K c_Ways
  na_Ways_creditors : L2.NoAttr K c_Ways "creditors"
  na_Ways_owers : L2.NoAttr K c_Ways "owers"
local macro_rules | `(tactic| walk_at "sz") => `(tactic| first | exact szOk (Nat.le_of_ble_eq_true rfl) | exact szLt (Nat.le_of_ble_eq_true rfl) | omega)
local macro_rules | `(tactic| walk_at "hp") => `(tactic| first | assumption | exact upd_same | (refine at_upd ?_ ?_ <;> walk_at "hp"))
local macro_rules | `(tactic| walk_at "sq") => `(tactic| first | assumption | exact .inl (.inl upd_same) | (refine sq_upd ?_ ?_ <;> first | walk_at "sq" | walk_at "hp"))
local macro_rules | `(tactic| walk_at "side") => `(tactic| first | (show (0 : Int) < _; decide) | exact ⟨by decide, by decide⟩ | exact ⟨by decide, by decide, by decide⟩ | exact .inl ⟨by decide, by decide⟩ | exact .inr ⟨by decide, by decide⟩ | omega)
local macro_rules | `(tactic| walk_at "rd1") => `(tactic| first
  | (refine ⟨_, rfl, ?_⟩)
  | (refine ⟨_, _, rfl, rfl, ?_⟩)
  | (refine ⟨rfl, ?_⟩)
  | (refine ⟨_, _, rfl, rfl, by walk_at "side", ?_⟩))
local macro_rules | `(tactic| walk_at "rd") => `(tactic| repeat walk_at "rd1")
theorem one_sz (c : Nat) : (Str.mk #[c]).length = 1 := rfl
def LET : Str := "abcdefghijklmnopqrstuvwxyz"
def FIG : Str := "0123456789"
theorem let_sz : LET.cps.size = 26 := by decide +kernel
theorem sgs_sz : (LET ++ FIG).cps.size = 36 := by decide +kernel
theorem let_ok : LET.length ≤ sizeLine := szOk (by show LET.cps.size ≤ _; rw [let_sz]; decide)
theorem sgs_ok : (LET ++ FIG).length ≤ sizeLine := szOk (by show (LET ++ FIG).cps.size ≤ _; rw [sgs_sz]; decide)
def sgnAt (seed : Int) (i : Nat) : Str := ⟨#[(LET ++ FIG).cps.getD ((seed + 7 * (1 + (i : Int))) % 36).toNat 0]⟩
theorem at_sgn2 {z : Str} {i : Int} (h0 : 0 ≤ i) (h1 : i < (z.cps.size : Int)) : atI z.cps.toList i = some (z.cps.getD i.toNat 0) := by
  obtain ⟨k, rfl⟩ := Int.eq_ofNat_of_zero_le h0
  have hk : k < z.cps.size := by omega
  refine atI_nat ?_
  rw [Array.getElem?_toList, Array.getElem?_eq_getElem hk, Array.getD_eq_getD_getElem?]
  simp [hk]
theorem slice_to {x : Str} {j : Int} (h0 : 0 ≤ j) (h1 : j ≤ (x.length : Int)) : Txt.slice x none (some j) = ⟨(x.cps.toList.take j.toNat).toArray⟩ := by
  have e : x.cps.toList.length = x.length := Array.length_toList
  have := eq_of_beq (PyProof.Rows.slice_closes_to (x := x) (j := j) ⟨h0, by rw [e]; exact h1⟩)
  rw [this, Int.toNat_zero, List.drop_zero, Int.sub_zero]
theorem name_at {W : Str} {a b : Int} {c : Nat} {B : Str} (hW : W.length = 12) (ha : 0 ≤ a) (hb : 0 ≤ b) (hab : a + b ≤ 12) : ((Txt.slice (Txt.slice W none (some (a + b))) none (some a) ++ Str.mk #[c]) ++ B).cps.toList[a.toNat]? = some c := by
  have e1 : (Txt.slice W none (some (a + b))).length = (a + b).toNat := by
    rw [slice_to (by omega) (by omega)]
    show (List.take _ _).toArray.size = _
    rw [List.size_toArray, List.length_take, Array.length_toList]
    have : W.cps.size = 12 := hW
    omega
  have e2 : (Txt.slice (Txt.slice W none (some (a + b))) none (some a)).cps.toList.length = a.toNat := by
    rw [slice_to (by omega) (by omega)]
    show (List.take _ _).toArray.toList.length = _
    rw [List.length_take, Array.length_toList]
    have : (Txt.slice W none (some (a + b))).cps.size = (a + b).toNat := e1
    omega
  rw [PyProof.Rows.cps_toList_append, PyProof.Rows.cps_toList_append, List.append_assoc, List.getElem?_append_right (by omega), e2, Nat.sub_self]
  rfl
theorem let_inj : ((List.range 26).all fun i => (List.range 26).all fun j => !decide (LET.cps.getD i 0 = LET.cps.getD j 0) || decide (i = j)) = true := by decide +kernel
def Tell (a : Int) (z : Str) (k : Nat) : Prop := z.cps.toList[(a % 12).toNat]? = some (LET.cps.getD k 0)
theorem tell_ne {a : Int} {z y : Str} {j k : Nat} (h1 : Tell a z j) (h2 : Tell a y k) (hj : j < 26) (hk : k < 26) (hne : j ≠ k) : z ≠ y := by
  rintro rfl
  have e : LET.cps.getD j 0 = LET.cps.getD k 0 := Option.some.inj (h1.symm.trans h2)
  have m1 := List.all_eq_true.mp (List.all_eq_true.mp let_inj j (List.mem_range.mpr hj)) k (List.mem_range.mpr hk)
  rw [e] at m1
  simp at m1
  exact hne m1
abbrev TD := Addr × Str × Str × Int
def rd (p : TD) : V := .ref p.1
def Tds (H : Hp) (ps : List TD) : Prop := ∀ p ∈ ps, H p.1 = some (.tup [.str p.2.1, .str p.2.2.1, .int p.2.2.2])
theorem eqK (a b d c : Str) : eqVs [V.str a, V.str b] [V.str d, V.str c] = decide ([a, b] = [d, c]) := by
  by_cases e : a = d <;> by_cases f : b = c <;> simp [eqVs, eqV, e, f]
def vD (ps : List TD) : List (Str × Str × Int) := ps.map (·.2)
abbrev DE := Addr × Nat × Nat × Int
def re (p : DE) : V := .ref p.1
def Des (m : Nat) (H : Hp) (ds : List DE) : Prop := ∀ p ∈ ds, H p.1 = some (.tup [.int p.2.1, .int p.2.2.1, .int p.2.2.2]) ∧ p.2.1 < m ∧ p.2.2.1 < m ∧ p.2.1 ≠ p.2.2.1 ∧ 0 ≤ p.2.2.2
def nmA (nm : List Str) (i : Nat) : Str := nm.getD i Str.empty
theorem nmA_get {nm : List Str} {i : Nat} (h : i < nm.length) : nm[i]? = some (nmA nm i) := by
  unfold nmA
  rw [List.getElem?_eq_getElem h, List.getD_eq_getElem?_getD, List.getElem?_eq_getElem h]
  rfl
theorem nmA_inj {nm : List Str} (nd : nm.Nodup) {i j : Nat} (hi : i < nm.length) (hj : j < nm.length) (e : nmA nm i = nmA nm j) : i = j := by
  have h1 := nmA_get hi
  rw [e, ← nmA_get hj] at h1
  exact (List.getElem?_inj hi nd).mp h1
theorem srt_ext {α : Type} {R : α → α → Prop} (irr : ∀ a, ¬ R a a) (tr : ∀ a b c, R a b → R b c → R a c) : ∀ (a b : List α), a.Pairwise R → b.Pairwise R → (∀ v, v ∈ a ↔ v ∈ b) → a = b
  | [], [], _, _, _ => rfl
  | [], y :: s, _, _, h => absurd ((h y).mpr List.mem_cons_self) List.not_mem_nil
  | x :: r, [], _, _, h => absurd ((h x).mp List.mem_cons_self) List.not_mem_nil
  | x :: r, y :: s, ha, hb, h => by
    obtain ⟨a1, a2⟩ := List.pairwise_cons.mp ha
    obtain ⟨b1, b2⟩ := List.pairwise_cons.mp hb
    have e : x = y := by
      rcases List.mem_cons.mp ((h x).mp List.mem_cons_self) with z | z
      · exact z
      · rcases List.mem_cons.mp ((h y).mpr List.mem_cons_self) with u | u
        · exact u.symm
        · exact absurd (tr _ _ _ (a1 y u) (b1 x z)) (irr x)
    subst e
    rw [srt_ext irr tr r s a2 b2 fun v => ⟨fun z => ?_, fun z => ?_⟩]
    · rcases List.mem_cons.mp ((h v).mp (List.mem_cons_of_mem _ z)) with u | u
      · rw [u] at z; exact absurd (a1 x z) (irr x)
      · exact u
    · rcases List.mem_cons.mp ((h v).mpr (List.mem_cons_of_mem _ z)) with u | u
      · rw [u] at z; exact absurd (b1 x z) (irr x)
      · exact u
def nR (z : Str) (p : Str × Str × Int) : Int := (if p.2.1 = z then p.2.2 else 0) - (if p.1 = z then p.2.2 else 0)
def net (z : Str) (ps : List (Str × Str × Int)) : Int := (ps.map (nR z)).sum
theorem net_app (z : Str) (ps qs : List (Str × Str × Int)) : net z (ps ++ qs) = net z ps + net z qs := by unfold net; rw [List.map_append, List.sum_append]
theorem net_one (z : Str) (p : Str × Str × Int) : net z [p] = nR z p := by unfold net; simp
theorem perm_sumI {a b : List Int} (h : a.Perm b) : a.sum = b.sum := by
  induction h with
  | nil => rfl
  | cons x _ ih => rw [List.sum_cons, List.sum_cons, ih]
  | swap x y l => simp only [List.sum_cons]; omega
  | trans _ _ i1 i2 => exact i1.trans i2
theorem net_perm {z : Str} {ps qs : List (Str × Str × Int)} (h : ps.Perm qs) : net z ps = net z qs := perm_sumI (h.map _)
def KS (a b : Str × Int) : Prop := keyL a.1 < keyL b.1
theorem ks_ext {a b : List (Str × Int)} (ha : a.Pairwise KS) (hb : b.Pairwise KS) (h : ∀ v, v ∈ a ↔ v ∈ b) : a = b :=
  srt_ext (R := KS) (fun a => List.lt_irrefl _) (fun a b c h1 h2 => List.lt_trans h1 h2) a b ha hb h
theorem perm_fI {qs : List (Str × V)} {ks : List (Str × Int)} (h : qs.Perm (ks.map fun p => (p.1, V.int p.2))) : ∃ rs : List (Str × Int), rs.Perm ks ∧ qs = rs.map fun p => (p.1, V.int p.2) := by
  let g : Str × V → Str × Int := fun q => (q.1, match q.2 with | .int i => i | _ => 0)
  refine ⟨qs.map g, ?_, ?_⟩
  · have := h.map g
    rw [List.map_map] at this
    have e : (g ∘ fun p : Str × Int => (p.1, V.int p.2)) = id := by funext p; rfl
    rwa [e, List.map_id] at this
  · rw [List.map_map]
    refine (List.map_id qs).symm.trans (List.map_congr_left fun q hq => ?_)
    obtain ⟨p, _, rfl⟩ := List.mem_map.mp (h.mem_iff.mp hq)
    rfl
abbrev T2 := Addr × Str × Int
def r2 (p : T2) : V := .ref p.1
def T2s (H : Hp) (ps : List T2) : Prop := ∀ p ∈ ps, H p.1 = some (.tup [.str p.2.1, .int p.2.2])
def v2 (ps : List T2) : List (Str × Int) := ps.map (·.2)
theorem paired_t2 {H : Hp} : ∀ {ts : List Addr} {rs : List (Str × Int)}, Paired (fun t (p : Str × V) => H t = some (.tup [.str p.1, p.2])) ts (rs.map fun p => (p.1, V.int p.2)) → ∃ qs : List T2, qs.map r2 = ts.map V.ref ∧ T2s H qs ∧ v2 qs = rs
  | [], [], _ => ⟨[], rfl, (fun _ z => by cases z), rfl⟩
  | _ :: _, [], h => by cases h
  | [], _ :: _, h => by cases h
  | t :: ts, p :: rs, h => by
    cases h with
    | cons h1 h2 =>
      obtain ⟨qs, e1, e2, e3⟩ := paired_t2 h2
      refine ⟨(t, p) :: qs, by rw [List.map_cons, List.map_cons, e1]; rfl, fun q hq => ?_, by unfold v2 at e3 ⊢; rw [List.map_cons, e3]⟩
      rcases List.mem_cons.mp hq with rfl | hq
      · exact h1
      · exact e2 q hq
theorem vD_take (ps : List TD) (i : Nat) {x : TD} (h : ps[i]? = some x) : (vD ps).take (i + 1) = (vD ps).take i ++ [x.2] := by
  unfold vD
  rw [List.take_add_one, List.getElem?_map, h]
  rfl
theorem vD_len (ps : List TD) : (vD ps).length = ps.length := List.length_map _
def dJ (ps : List (Int × Int)) : List (Key × V) := ps.map fun p => (Sum.inl p.1, V.int p.2)
def hvJ (ps : List (Int × Int)) (k : Int) : Int := ((ps.find? fun p => decide (p.1 = k)).map (·.2)).getD 0
def putJ (ps : List (Int × Int)) (k : Int) (v : Int) : List (Int × Int) := if (ps.any fun p => decide (p.1 = k)) = true then ps.map (fun p => if p.1 = k then (p.1, v) else p) else ps ++ [(k, v)]
theorem dJ_find (k : Int) : ∀ ps : List (Int × Int), valV (dJ ps) (Sum.inl k) = (ps.find? fun p => decide (p.1 = k)).map fun p => V.int p.2
  | [] => rfl
  | p :: ps => by
    by_cases c : p.1 = k
    · have e : (Sum.inl p.1 : Key) = Sum.inl k := by rw [c]
      rw [List.find?_cons, decide_eq_true c]
      exact valV_pos (p := (Sum.inl p.1, V.int p.2)) (r := dJ ps) e
    · have e : ¬ (Sum.inl p.1 : Key) = Sum.inl k := fun z => c (Sum.inl.inj z)
      rw [List.find?_cons, decide_eq_false c]
      exact (valV_neg (p := (Sum.inl p.1, V.int p.2)) (r := dJ ps) e).trans (dJ_find k ps)
theorem dJ_get (ps : List (Int × Int)) (k : Int) : (valV (dJ ps) (Sum.inl k)).getD (V.int 0) = V.int (hvJ ps k) := by
  rw [dJ_find]
  unfold hvJ
  cases ps.find? fun p => decide (p.1 = k) <;> rfl
theorem dJ_put (ps : List (Int × Int)) (k : Int) (v : Int) : putK (dJ ps) (Sum.inl k) (V.int v) = dJ (putJ ps k v) := by
  unfold putK putJ
  have a : ((dJ ps).any fun kv => decide (kv.1 = (Sum.inl k : Key))) = ps.any fun p => decide (p.1 = k) := by
    unfold dJ
    rw [List.any_map]
    congr 1
    funext p
    exact (key_ll p.1 k).trans (by by_cases c : p.1 = k <;> simp [c])
  rw [a]
  split
  · unfold dJ
    rw [List.map_map, List.map_map]
    apply List.map_congr_left
    intro p _
    show (if (Sum.inl p.1 : Key) = Sum.inl k then ((Sum.inl p.1 : Key), V.int v) else (Sum.inl p.1, V.int p.2)) = (Sum.inl (if p.1 = k then (p.1, v) else p).1, V.int (if p.1 = k then (p.1, v) else p).2)
    by_cases c : p.1 = k
    · rw [if_pos (by rw [c]), if_pos c]
    · rw [if_neg (fun z => c (Sum.inl.inj z)), if_neg c]
  · unfold dJ
    rw [List.map_append]
    rfl
theorem hvJ_mem : ∀ {ps : List (Int × Int)} {p : Int × Int}, (ps.map (·.1)).Nodup → p ∈ ps → hvJ ps p.1 = p.2
  | q :: ps, p, nd, m => by
    have nd' := List.nodup_cons.mp nd
    unfold hvJ
    rcases List.mem_cons.mp m with rfl | m
    · rw [List.find?_cons, decide_eq_true rfl]
      rfl
    · have ne : ¬ q.1 = p.1 := fun e => nd'.1 (by show q.1 ∈ _; rw [e]; exact List.mem_map_of_mem (f := fun x : Int × Int => x.1) m)
      rw [List.find?_cons, decide_eq_false ne]
      exact hvJ_mem nd'.2 m
theorem dJ_val {ps : List (Int × Int)} {p : Int × Int} (nd : (ps.map (·.1)).Nodup) (m : p ∈ ps) : valV (dJ ps) (Sum.inl p.1) = some (V.int p.2) := by
  have h := hvJ_mem nd m
  rw [dJ_find]
  unfold hvJ at h
  cases e : ps.find? fun q => decide (q.1 = p.1) with
  | none => exact absurd (decide_eq_true rfl) (List.find?_eq_none.mp e p m)
  | some q =>
    rw [e] at h
    have h' : q.2 = p.2 := h
    show some (V.int q.2) = _
    rw [h']
theorem dJ_len (ps : List (Int × Int)) : (dJ ps).length = ps.length := List.length_map _
theorem putJ_len1 (ks : List (Int × Int)) (k : Int) (v : Int) : (putJ ks k v).length ≤ ks.length + 1 := by
  unfold putJ
  split
  · rw [List.length_map]; omega
  · rw [List.length_append]; show _ + 1 ≤ _; omega
theorem anyJ_mem {ps : List (Int × Int)} {k : Int} : (ps.any fun p => decide (p.1 = k)) = true ↔ k ∈ ps.map (·.1) := by
  rw [List.any_eq_true, List.mem_map]
  constructor
  · rintro ⟨q, hq, c⟩; exact ⟨q, hq, of_decide_eq_true c⟩
  · rintro ⟨q, hq, c⟩; exact ⟨q, hq, decide_eq_true c⟩
theorem putJ_keys (ps : List (Int × Int)) (k : Int) (v : Int) : (putJ ps k v).map (·.1) = if k ∈ ps.map (·.1) then ps.map (·.1) else ps.map (·.1) ++ [k] := by
  unfold putJ
  by_cases h : (ps.any fun p => decide (p.1 = k)) = true
  · rw [if_pos h, if_pos (anyJ_mem.mp h), List.map_map]
    refine List.map_congr_left fun p _ => ?_
    show (if p.1 = k then (p.1, v) else p).1 = p.1
    split <;> rfl
  · rw [if_neg h, if_neg (fun z => h (anyJ_mem.mpr z)), List.map_append]
    rfl
theorem putJ_nd {ps : List (Int × Int)} (k : Int) (v : Int) (nd : (ps.map (·.1)).Nodup) : ((putJ ps k v).map (·.1)).Nodup := by
  rw [putJ_keys]
  split
  · exact nd
  · rename_i c
    refine List.nodup_append.mpr ⟨nd, List.nodup_cons.mpr ⟨List.not_mem_nil, List.nodup_nil⟩, fun x hx y hy e => ?_⟩
    rw [List.mem_singleton.mp hy] at e
    exact c (e ▸ hx)
theorem putJ_mem {ps : List (Int × Int)} {k : Int} {v : Int} {z : Int} : z ∈ (putJ ps k v).map (·.1) ↔ z ∈ ps.map (·.1) ∨ z = k := by
  rw [putJ_keys]
  split
  · rename_i c
    exact ⟨.inl, fun h => h.elim id fun e => e ▸ c⟩
  · rw [List.mem_append, List.mem_singleton]
def cf (k : Nat) (key : Int) : Int := (if key % 26 = (k : Int) then 1 else 0) - (if key / 26 = (k : Int) then 1 else 0)
def nT (k : Nat) (T : List (Int × Int)) : Int := (T.map fun p => cf k p.1 * p.2).sum
theorem nT_put {T : List (Int × Int)} (k : Nat) (key more : Int) (nd : (T.map (·.1)).Nodup) : nT k (putJ T key (hvJ T key + more)) = nT k T + cf k key * more := by
  have hc : ∀ (p : Int × Int) (r : List (Int × Int)), hvJ (p :: r) key = if p.1 = key then p.2 else hvJ r key := fun p r => by
    unfold hvJ
    rw [List.find?_cons]
    by_cases c : p.1 = key
    · rw [decide_eq_true c, if_pos c]; rfl
    · rw [decide_eq_false c, if_neg c]
  have main : ∀ T : List (Int × Int), (T.map (·.1)).Nodup → key ∈ T.map (·.1) → nT k (T.map fun p => if p.1 = key then (p.1, hvJ T key + more) else p) = nT k T + cf k key * more := by
    intro T
    induction T with
    | nil => intro _ h; cases h
    | cons p r ih =>
      intro nd h
      obtain ⟨n1, n2⟩ := List.nodup_cons.mp nd
      unfold nT at ih ⊢
      rw [List.map_cons, List.map_cons, List.sum_cons, List.map_cons, List.sum_cons]
      by_cases c : p.1 = key
      · have e1 : (r.map fun q => if q.1 = key then (q.1, hvJ (p :: r) key + more) else q) = r := by
          refine (List.map_congr_left fun q hq => ?_).trans (List.map_id r)
          have : ¬ q.1 = key := fun e => n1 (by show p.1 ∈ _; rw [c, ← e]; exact List.mem_map_of_mem (f := fun x : Int × Int => x.1) hq)
          rw [if_neg this]; rfl
        rw [e1, if_pos c, hc, if_pos c, c]
        show cf k key * (p.2 + more) + _ = cf k key * p.2 + _ + _
        rw [Int.mul_add]
        omega
      · have m : key ∈ r.map (·.1) := by
          rcases List.mem_cons.mp h with h | h
          · exact absurd h.symm c
          · exact h
        rw [if_neg c, hc, if_neg c, ih n2 m]
        omega
  unfold putJ
  by_cases h : (T.any fun p => decide (p.1 = key)) = true
  · rw [if_pos h]; exact main T nd (anyJ_mem.mp h)
  · rw [if_neg h]
    have z : hvJ T key = 0 := by
      unfold hvJ
      have : (T.find? fun p => decide (p.1 = key)) = none := List.find?_eq_none.mpr fun q hq c => h (List.any_eq_true.mpr ⟨q, hq, c⟩)
      rw [this]; rfl
    unfold nT
    rw [List.map_append, List.sum_append, z]
    show _ + (cf k key * (0 + more) + 0) = _
    rw [Int.zero_add, Int.add_zero]
def sdF (k : Nat) (p : DE) : Int := (if p.2.2.1 = k then p.2.2.2 else 0) - (if p.2.1 = k then p.2.2.2 else 0)
def sd (k : Nat) (ds : List DE) : Int := (ds.map (sdF k)).sum
theorem sd_take (k : Nat) (ds : List DE) (i : Nat) {x : DE} (h : ds[i]? = some x) : sd k (ds.take (i + 1)) = sd k (ds.take i) + sdF k x := by
  unfold sd
  rw [List.take_add_one, h, List.map_append, List.sum_append]
  show _ + (sdF k x + 0) = _
  omega
structure TOk (m : Nat) (T : List (Int × Int)) : Prop where
  nd : (T.map (·.1)).Nodup
  ks : ∀ p ∈ T, ∃ a b : Nat, a < b ∧ b < m ∧ p.1 = (a : Int) * 26 + (b : Int)
theorem cf_at {a b k : Nat} (ha : a < 26) (hb : b < 26) : cf k ((a : Int) * 26 + (b : Int)) = (if b = k then 1 else 0) - (if a = k then 1 else 0) := by
  unfold cf
  have e1 : ((a : Int) * 26 + (b : Int)) % 26 = (b : Int) := by omega
  have e2 : ((a : Int) * 26 + (b : Int)) / 26 = (a : Int) := by omega
  rw [e1, e2]
  have c1 : ((b : Int) = (k : Int)) ↔ b = k := by omega
  have c2 : ((a : Int) = (k : Int)) ↔ a = k := by omega
  simp only [c1, c2]
def rw1 (nm : List Str) (p : Int × Int) : List (Str × Str × Int) := if 0 < p.2 then [(nmA nm (p.1 / 26).toNat, nmA nm (p.1 % 26).toNat, p.2)] else if p.2 < 0 then [(nmA nm (p.1 % 26).toNat, nmA nm (p.1 / 26).toNat, -p.2)] else []
theorem rw_net {nm : List Str} (nd : nm.Nodup) (l : nm.length ≤ 8) {k : Nat} (hk : k < nm.length) : ∀ {T : List (Int × Int)}, (∀ p ∈ T, ∃ a b : Nat, a < b ∧ b < nm.length ∧ p.1 = (a : Int) * 26 + (b : Int)) → net (nmA nm k) (T.flatMap (rw1 nm)) = nT k T
  | [], _ => rfl
  | p :: T, h => by
    have ih := rw_net nd l hk (T := T) fun q hq => h q (List.mem_cons_of_mem _ hq)
    obtain ⟨a, b, hab, hb, e⟩ := h p List.mem_cons_self
    have eT : nT k (p :: T) = cf k p.1 * p.2 + nT k T := by unfold nT; rw [List.map_cons, List.sum_cons]
    rw [List.flatMap_cons, net_app, ih, eT, e, cf_at (by omega) (by omega)]
    have e1 : (p.1 / 26).toNat = a := by rw [e]; omega
    have e2 : (p.1 % 26).toNat = b := by rw [e]; omega
    have ia : nmA nm a = nmA nm k ↔ a = k := ⟨fun z => nmA_inj nd (by omega) hk z, fun z => by rw [z]⟩
    have ib : nmA nm b = nmA nm k ↔ b = k := ⟨fun z => nmA_inj nd hb hk z, fun z => by rw [z]⟩
    congr 1
    unfold rw1
    rw [e1, e2]
    by_cases c1 : 0 < p.2
    · rw [if_pos c1, net_one]
      unfold nR
      simp only [ia, ib]
      by_cases x : b = k <;> by_cases y : a = k <;> simp [x, y] <;> omega
    · rw [if_neg c1]
      by_cases c2 : p.2 < 0
      · rw [if_pos c2, net_one]
        unfold nR
        simp only [ia, ib]
        by_cases x : b = k <;> by_cases y : a = k <;> simp [x, y] <;> omega
      · rw [if_neg c2, show p.2 = 0 by omega, Int.mul_zero]
        rfl
theorem rw_mem {nm : List Str} (l : nm.length ≤ 8) {T : List (Int × Int)} (h : ∀ p ∈ T, ∃ a b : Nat, a < b ∧ b < nm.length ∧ p.1 = (a : Int) * 26 + (b : Int)) {v : Str × Str × Int} (hv : v ∈ T.flatMap (rw1 nm)) : ∃ p ∈ T, ∃ a b : Nat, a < b ∧ b < nm.length ∧ p.1 = (a : Int) * 26 + (b : Int) ∧ ((v.1 = nmA nm a ∧ v.2.1 = nmA nm b) ∨ (v.1 = nmA nm b ∧ v.2.1 = nmA nm a)) := by
  obtain ⟨p, hp, hv⟩ := List.mem_flatMap.mp hv
  obtain ⟨a, b, hab, hb, e⟩ := h p hp
  have e1 : (p.1 / 26).toNat = a := by rw [e]; omega
  have e2 : (p.1 % 26).toNat = b := by rw [e]; omega
  refine ⟨p, hp, a, b, hab, hb, e, ?_⟩
  unfold rw1 at hv
  rw [e1, e2] at hv
  split at hv
  · rw [List.mem_singleton.mp hv]; exact .inl ⟨rfl, rfl⟩
  · split at hv
    · rw [List.mem_singleton.mp hv]; exact .inr ⟨rfl, rfl⟩
    · cases hv
theorem rw_len (nm : List Str) (p : Int × Int) : (rw1 nm p).length ≤ 1 := by
  unfold rw1
  split
  · exact Nat.le_refl _
  · split
    · exact Nat.le_refl _
    · exact Nat.zero_le _
theorem rw_nd {nm : List Str} (nd : nm.Nodup) (l : nm.length ≤ 8) : ∀ {T : List (Int × Int)}, TOk nm.length T → ((T.flatMap (rw1 nm)).map fun v => (v.1, v.2.1)).Nodup
  | [], _ => List.nodup_nil
  | p :: T, h => by
    obtain ⟨n1, n2⟩ := List.nodup_cons.mp h.nd
    have ok : TOk nm.length T := ⟨n2, fun q hq => h.ks q (List.mem_cons_of_mem _ hq)⟩
    rw [List.flatMap_cons, List.map_append]
    refine List.nodup_append.mpr ⟨?_, rw_nd nd l ok, fun x hx y hy e => ?_⟩
    · have := rw_len nm p
      cases c : rw1 nm p with
      | nil => exact List.nodup_nil
      | cons v r =>
        rw [c] at this
        have : r = [] := List.eq_nil_of_length_eq_zero (by rw [List.length_cons] at this; omega)
        rw [this]
        exact List.nodup_cons.mpr ⟨List.not_mem_nil, List.nodup_nil⟩
    · obtain ⟨v, hv, rfl⟩ := List.mem_map.mp hx
      obtain ⟨v', hv', rfl⟩ := List.mem_map.mp hy
      obtain ⟨q, hq, a, b, ab, bm, eq, c⟩ := rw_mem l (T := [p]) (fun q hq => h.ks q (by rw [List.mem_singleton.mp hq]; exact List.mem_cons_self)) (v := v) (by rw [List.flatMap_cons, List.flatMap_nil, List.append_nil]; exact hv)
      obtain ⟨q', hq', a', b', ab', bm', eq', c'⟩ := rw_mem l ok.ks hv'
      have e1 : v.1 = v'.1 := (Prod.mk.inj e).1
      have e2 : v.2.1 = v'.2.1 := (Prod.mk.inj e).2
      have qe : q = p := List.mem_singleton.mp hq
      have inj : ∀ {i j : Nat}, i < nm.length → j < nm.length → nmA nm i = nmA nm j → i = j := fun hi hj z => nmA_inj nd hi hj z
      have same : a = a' ∧ b = b' := by
        rcases c with ⟨c1, c2⟩ | ⟨c1, c2⟩ <;> rcases c' with ⟨d1, d2⟩ | ⟨d1, d2⟩
        · exact ⟨inj (by omega) (by omega) (c1.symm.trans (e1.trans d1)), inj (by omega) (by omega) (c2.symm.trans (e2.trans d2))⟩
        · have x := inj (by omega) (by omega) (c1.symm.trans (e1.trans d1))
          have y := inj (by omega) (by omega) (c2.symm.trans (e2.trans d2))
          omega
        · have x := inj (by omega) (by omega) (c1.symm.trans (e1.trans d1))
          have y := inj (by omega) (by omega) (c2.symm.trans (e2.trans d2))
          omega
        · exact ⟨inj (by omega) (by omega) (c2.symm.trans (e2.trans d2)), inj (by omega) (by omega) (c1.symm.trans (e1.trans d1))⟩
      refine n1 ?_
      show p.1 ∈ _
      rw [← qe, eq, same.1, same.2, ← eq']
      exact List.mem_map_of_mem (f := fun x : Int × Int => x.1) hq'
structure BOk (nm : List Str) (ds : List DE) (ps : List (Str × Str × Int)) : Prop where
  net : ∀ k, k < nm.length → net (nmA nm k) ps = sd k ds
  mem : ∀ p ∈ ps, p.1 ∈ nm ∧ p.2.1 ∈ nm
theorem nmA_mem {nm : List Str} {i : Nat} (h : i < nm.length) : nmA nm i ∈ nm := List.mem_of_getElem? (nmA_get h)
theorem bok_of {nm : List Str} (nd : nm.Nodup) (l : nm.length ≤ 8) {ds : List DE} {T : List (Int × Int)} {ps : List (Str × Str × Int)} (ok : TOk nm.length T) (h : ∀ k, k < nm.length → nT k T = sd k ds) (pm : ps.Perm (T.flatMap (rw1 nm))) : BOk nm ds ps := by
  refine ⟨fun k hk => by rw [net_perm pm, rw_net nd l hk ok.ks, h k hk], fun p hp => ?_⟩
  obtain ⟨q, _, a, b, ab, bm, _, c⟩ := rw_mem l ok.ks (pm.mem_iff.mp hp)
  rcases c with ⟨c1, c2⟩ | ⟨c1, c2⟩ <;> rw [c1, c2]
  · exact ⟨nmA_mem (by omega), nmA_mem (by omega)⟩
  · exact ⟨nmA_mem (by omega), nmA_mem (by omega)⟩
abbrev Gr := Str → List Str
def lvg (g : Gr) (n : Str) : Gr := fun y => if y = n then [] else g y
def stu (un : Str → Option (List Str)) (x : Str) (l : List Str) : Str → Option (List Str) := fun y => if y = x then some l else un y
theorem stu_self {un : Str → Option (List Str)} {x : Str} {l : List Str} : stu un x l x = some l := if_pos rfl
theorem stu_ne {un : Str → Option (List Str)} {x y : Str} {l : List Str} (h : y ≠ x) : stu un x l y = un y := if_neg h
theorem stu_some {un : Str → Option (List Str)} {x y : Str} {l : List Str} (h : un y ≠ none) : stu un x l y ≠ none := by
  by_cases c : y = x
  · rw [c, stu_self]; exact fun z => nomatch z
  · rw [stu_ne c]; exact h
inductive Walk (g : Gr) (st : Str) : List Str → (Str → Option (List Str)) → List Str → Prop
  | done {un} : Walk g st [] un []
  | back {x p un r} : un x = some [] → Walk g st p un r → Walk g st (x :: p) un r
  | ring {x p un l} : un x = some (st :: l) → Walk g st (x :: p) un (x :: p).reverse
  | old {x p un c l r} : un x = some (c :: l) → c ≠ st → un c ≠ none → Walk g st (x :: p) (stu un x l) r → Walk g st (x :: p) un r
  | new {x p un c l r} : un x = some (c :: l) → c ≠ st → un c = none → Walk g st (c :: x :: p) (stu (stu un x l) c (g c)) r → Walk g st (x :: p) un r
def Chf (g : Gr) (p : List Str) : Prop := ∀ (i : Nat) (a b : Str), p[i]? = some a → p[i + 1]? = some b → b ∈ g a
theorem Chf.snoc {g : Gr} {x c : Str} {p : List Str} (h : Chf g (x :: p).reverse) (hc : c ∈ g x) : Chf g (c :: x :: p).reverse := by
  intro i a b ha hb
  rw [List.reverse_cons] at ha hb
  have lt := (List.getElem?_eq_some_iff.mp hb).1
  rw [List.length_append] at lt
  have lt : i + 1 < (x :: p).reverse.length + 1 := lt
  by_cases e : i + 1 < (x :: p).reverse.length
  · rw [List.getElem?_append_left e] at hb
    rw [List.getElem?_append_left (by omega)] at ha
    exact h i a b ha hb
  · have ei : i + 1 = (x :: p).reverse.length := by omega
    rw [ei, List.getElem?_append_right (Nat.le_refl _), Nat.sub_self] at hb
    cases (show c = b from Option.some.inj hb)
    rw [List.getElem?_append_left (by omega), List.reverse_cons] at ha
    rw [List.length_reverse, List.length_cons] at ei
    rw [List.getElem?_append_right (by rw [List.length_reverse]; omega), List.length_reverse, show i - p.length = 0 by omega] at ha
    cases (show x = a from Option.some.inj ha)
    exact hc
structure RingOk (g : Gr) (st : Str) (r : List Str) : Prop where
  nd : r.Nodup
  ch : Chf g r
  hd : r[0]? = some st
  cl : ∀ a, r[r.length - 1]? = some a → st ∈ g a
theorem Walk.sound {g : Gr} {st : Str} {p : List Str} {un : Str → Option (List Str)} {r : List Str} (h : Walk g st p un r) : p.Nodup → Chf g p.reverse → (p ≠ [] → p.reverse[0]? = some st) → (∀ x ∈ p, un x ≠ none) → (∀ x l, un x = some l → ∀ c ∈ l, c ∈ g x) → r = [] ∨ RingOk g st r := by
  induction h with
  | done => intros; exact .inl rfl
  | @back x p un r e _ ih =>
    intro nd ch hd hp hu
    obtain ⟨n1, n2⟩ := List.nodup_cons.mp nd
    refine ih n2 (fun i a b ha hb => ?_) (fun ne => ?_) (fun y hy => hp y (List.mem_cons_of_mem _ hy)) hu
    · refine ch i a b ?_ ?_
      · rw [List.reverse_cons, List.getElem?_append_left (List.getElem?_eq_some_iff.mp ha).1]; exact ha
      · rw [List.reverse_cons, List.getElem?_append_left (List.getElem?_eq_some_iff.mp hb).1]; exact hb
    · have := hd (fun z => nomatch z)
      have lp : 0 < p.reverse.length := by rw [List.length_reverse]; exact List.length_pos_iff.mpr ne
      rw [List.reverse_cons, List.getElem?_append_left lp] at this
      exact this
  | @ring x p un l e =>
    intro nd ch hd hp hu
    refine .inr ⟨(List.reverse_perm (x :: p)).nodup_iff.mpr nd, ch, hd (fun z => nomatch z), fun a ha => ?_⟩
    rw [List.reverse_cons, List.length_append, List.getElem?_append_right (by show _ ≤ _ + 1 - 1; omega)] at ha
    rw [show p.reverse.length + [x].length - 1 - p.reverse.length = 0 by show _ + 1 - 1 - _ = 0; omega] at ha
    cases (show x = a from Option.some.inj ha)
    exact hu x _ e st List.mem_cons_self
  | @old x p un c l r e n u _ ih =>
    intro nd ch hd hp hu
    refine ih nd ch hd (fun y hy => stu_some (hp y hy)) (fun y l' e' => ?_)
    by_cases c1 : y = x
    · subst c1
      rw [stu_self] at e'
      cases e'
      exact fun d hd => hu y _ e d (List.mem_cons_of_mem _ hd)
    · rw [stu_ne c1] at e'; exact hu y l' e'
  | @new x p un c l r e n u _ ih =>
    intro nd ch hd hp hu
    have hc : c ∈ g x := hu x _ e c List.mem_cons_self
    have cn : c ∉ x :: p := fun z => hp c z u
    refine ih (List.nodup_cons.mpr ⟨cn, nd⟩) (ch.snoc hc) (fun _ => ?_) (fun y hy => ?_) (fun y l' e' => ?_)
    · rw [List.reverse_cons, List.getElem?_append_left (by rw [List.length_reverse, List.length_cons]; omega)]
      exact hd (fun z => nomatch z)
    · rcases List.mem_cons.mp hy with rfl | hy
      · rw [stu_self]; exact fun z => nomatch z
      · exact stu_some (stu_some (hp y hy))
    · by_cases c1 : y = c
      · subst c1
        rw [stu_self] at e'
        cases e'
        exact fun d hd => hd
      · rw [stu_ne c1] at e'
        by_cases c2 : y = x
        · subst c2
          rw [stu_self] at e'
          cases e'
          exact fun d hd => hu y _ e d (List.mem_cons_of_mem _ hd)
        · rw [stu_ne c2] at e'; exact hu y l' e'
theorem Walk.empty {g : Gr} {st : Str} {p : List Str} {un : Str → Option (List Str)} {r : List Str} (h : Walk g st p un r) : r = [] → (∀ x l, un x = some l → ∀ y ∈ g x, y ∈ l ∨ (un y ≠ none ∧ y ≠ st)) → (∀ x, un x ≠ none → x ∈ p ∨ un x = some []) →
    ∃ T : Str → Prop, (∀ x, un x ≠ none → T x) ∧ ∀ x, T x → ∀ y ∈ g x, T y ∧ y ≠ st := by
  induction h with
  | @done un =>
    intro _ j1 j2
    refine ⟨fun x => un x ≠ none, fun _ h => h, fun x hx y hy => ?_⟩
    rcases j2 x hx with z | z
    · cases z
    · rcases j1 x [] z y hy with w | w
      · cases w
      · exact w
  | @back x p un r e _ ih =>
    intro hr j1 j2
    refine ih hr j1 (fun y hy => ?_)
    rcases j2 y hy with z | z
    · rcases List.mem_cons.mp z with rfl | z
      · exact .inr e
      · exact .inl z
    · exact .inr z
  | @ring x p un l e =>
    intro hr
    rw [List.reverse_cons] at hr
    exact absurd hr (by simp)
  | @old x p un c l r e n u _ ih =>
    intro hr j1 j2
    refine (ih hr (fun y l' e' z hz => ?_) (fun y hy => ?_)).imp fun T t => ⟨fun y hy => t.1 y (stu_some hy), t.2⟩
    · by_cases c1 : y = x
      · subst c1
        rw [stu_self] at e'
        cases e'
        rcases j1 y _ e z hz with w | w
        · rcases List.mem_cons.mp w with rfl | w
          · exact .inr ⟨stu_some u, n⟩
          · exact .inl w
        · exact .inr ⟨stu_some w.1, w.2⟩
      · rw [stu_ne c1] at e'
        rcases j1 y l' e' z hz with w | w
        · exact .inl w
        · exact .inr ⟨stu_some w.1, w.2⟩
    · by_cases c1 : y = x
      · exact .inl (c1 ▸ List.mem_cons_self)
      · rw [stu_ne c1] at hy ⊢
        exact j2 y hy
  | @new x p un c l r e n u _ ih =>
    intro hr j1 j2
    refine (ih hr (fun y l' e' z hz => ?_) (fun y hy => ?_)).imp fun T t => ⟨fun y hy => t.1 y (stu_some (stu_some hy)), t.2⟩
    · by_cases c0 : y = c
      · subst c0
        rw [stu_self] at e'
        cases e'
        exact .inl hz
      · rw [stu_ne c0] at e'
        by_cases c1 : y = x
        · subst c1
          rw [stu_self] at e'
          cases e'
          rcases j1 y _ e z hz with w | w
          · rcases List.mem_cons.mp w with rfl | w
            · exact .inr ⟨(by rw [stu_self]; exact (fun z => nomatch z)), n⟩
            · exact .inl w
          · exact .inr ⟨stu_some (stu_some w.1), w.2⟩
        · rw [stu_ne c1] at e'
          rcases j1 y l' e' z hz with w | w
          · exact .inl w
          · exact .inr ⟨stu_some (stu_some w.1), w.2⟩
    · by_cases c0 : y = c
      · exact .inl (c0 ▸ List.mem_cons_self)
      · rw [stu_ne c0] at hy ⊢
        by_cases c1 : y = x
        · exact .inl (c1 ▸ List.mem_cons_of_mem _ List.mem_cons_self)
        · rw [stu_ne c1] at hy ⊢
          rcases j2 y hy with z | z
          · exact .inl (List.mem_cons_of_mem _ z)
          · exact .inr z
def Acy (g : Gr) : Prop := ∃ r : Str → Nat, ∀ x y, y ∈ g x → r x < r y
theorem le_sum {r : Str → Nat} : ∀ {N : List Str} {x : Str}, x ∈ N → r x ≤ (N.map r).sum
  | [], _, h => nomatch h
  | a :: N, x, h => by
    rw [List.map_cons, List.sum_cons]
    rcases List.mem_cons.mp h with rfl | h
    · omega
    · have := le_sum (r := r) h; omega
theorem acy_on {g : Gr} {n : Str} {N : List Str} (fin : ∀ x, g x ≠ [] → x ∈ N) (h : Acy (lvg g n)) (t : ∃ T : Str → Prop, T n ∧ ∀ x, T x → ∀ y ∈ g x, T y ∧ y ≠ n) : Acy g := by
  obtain ⟨r, hr⟩ := h
  obtain ⟨T, tn, tc⟩ := t
  haveI : DecidablePred T := fun x => Classical.propDecidable _
  have old : ∀ x y, x ≠ n → y ∈ g x → r x < r y := fun x y hx hy => hr x y (by unfold lvg; rw [if_neg hx]; exact hy)
  refine ⟨fun x => if x = n then (N.map r).sum + 1 else if T x then (N.map r).sum + 2 + r x else r x, fun x y hy => ?_⟩
  have hx : x ∈ N := fin x fun z => by rw [z] at hy; cases hy
  have lx := le_sum (r := r) hx
  dsimp only
  by_cases tx : T x
  · obtain ⟨ty, ny⟩ := tc x tx y hy
    rw [if_neg ny, if_pos ty]
    by_cases ex : x = n
    · rw [if_pos ex]; omega
    · rw [if_neg ex, if_pos tx]
      have := old x y ex hy
      omega
  · have ex : x ≠ n := fun z => tx (z ▸ tn)
    have := old x y ex hy
    rw [if_neg ex, if_neg tx]
    split
    · omega
    · split <;> omega
def RF (g : Gr) (n : Str) (r : List Str) : Prop := ((∀ x, n ∉ g x) ∧ r = []) ∨ ((∃ x, n ∈ g x) ∧ Walk g n [n] (stu (fun _ => none) n (g n)) r)
theorem RF.sound {g : Gr} {n : Str} {r : List Str} (h : RF g n r) : r = [] ∨ RingOk g n r := by
  rcases h with ⟨_, b⟩ | ⟨_, b⟩
  · exact .inl b
  · refine b.sound (List.nodup_cons.mpr ⟨(fun z => nomatch z), List.nodup_nil⟩) (fun i a c ha hc => ?_) (fun _ => rfl) (fun x hx => ?_) (fun x l e c hc => ?_)
    · have := (List.getElem?_eq_some_iff.mp hc).1
      exact absurd this (by show ¬ i + 1 < 1; omega)
    · rw [List.mem_singleton.mp hx, stu_self]; exact fun z => nomatch z
    · by_cases c1 : x = n
      · rw [c1, stu_self] at e; cases e; rw [c1]; exact hc
      · rw [stu_ne c1] at e; cases e
inductive RW : Gr → List Str → List Str → Prop
  | nil {g} : RW g [] []
  | hit {g n ns r} : RF g n r → r ≠ [] → RW g (n :: ns) r
  | miss {g n ns r} : RF g n [] → RW (lvg g n) ns r → RW g (n :: ns) r
theorem RW.ring {g : Gr} {ns r : List Str} (h : RW g ns r) : r ≠ [] → (∀ x, g x ≠ [] → x ∈ ns) → ∃ n ms, (n :: ms) <:+ ns ∧ (∀ y ∈ r, y ∈ n :: ms) ∧ RingOk g n r := by
  induction h with
  | nil => intro e; exact absurd rfl e
  | @hit g n ns r a b =>
    intro _ f
    have ok := a.sound.resolve_left b
    refine ⟨n, ns, List.suffix_refl _, fun y hy => f y fun z => ?_, ok⟩
    obtain ⟨i, hi⟩ := List.mem_iff_getElem?.mp hy
    have li := (List.getElem?_eq_some_iff.mp hi).1
    by_cases c : i + 1 < r.length
    · have := ok.ch i y _ hi (List.getElem?_eq_getElem c)
      rw [z] at this; cases this
    · have := ok.cl y (by rw [show r.length - 1 = i by omega]; exact hi)
      rw [z] at this; cases this
  | @miss g n ns r a _ ih =>
    intro e f
    obtain ⟨m, ms, s1, s2, ok⟩ := ih e fun x hx => by
      unfold lvg at hx
      by_cases c : x = n
      · rw [if_pos c] at hx; exact absurd rfl hx
      · rw [if_neg c] at hx
        exact (List.mem_cons.mp (f x hx)).resolve_left c
    have sub : ∀ a b, b ∈ lvg g n a → b ∈ g a := fun a b h => by
      unfold lvg at h
      split at h
      · cases h
      · exact h
    exact ⟨m, ms, s1.trans (List.suffix_cons _ _), s2, ok.nd, fun i a b ha hb => sub _ _ (ok.ch i a b ha hb), ok.hd, fun a ha => sub _ _ (ok.cl a ha)⟩
abbrev GE := Str × Addr × List Str
def gv (e : GE) : Str × List Str := (e.1, e.2.2)
def outsP (g : List (Str × List Str)) : Gr := fun x => ((g.find? fun e => decide (e.1 = x)).map (·.2)).getD []
def outs (gs : List GE) : Gr := outsP (gs.map gv)
def indeg (gs : List GE) (y : Str) : Int := (gs.map fun e => (e.2.2.count y : Int)).sum
def kvC (gs : List GE) : List (Key × V) := gs.map fun e => (Sum.inr e.1, V.ref e.2.1)
def kvO (gs : List GE) (f : Str → Int) : List (Key × V) := gs.map fun e => (Sum.inr e.1, V.int (f e.1))
def fdW (dc dO : Addr) : List (Str × V) := [("creditors", .ref dc), ("owers", .ref dO)]
structure Ways (C : Addr) (H : Hp) (x dc dO : Addr) (gs : List GE) : Prop where
  ins : ∃ dx, H x = some (.ins C dx (fdW dc dO))
  cr : H dc = some (.dK (kvC gs))
  ow : H dO = some (.dK (kvO gs (indeg gs)))
  ne : dc ≠ dO
  ls : ∀ e ∈ gs, H e.2.1 = some (.lst (e.2.2.map V.str))
  nd : (gs.map (·.1)).Nodup
  ad : (gs.map (·.2.1)).Nodup
  cl : ∀ e ∈ gs, ∀ y ∈ e.2.2, y ∈ gs.map (·.1)
  ln : gs.length ≤ 2000 ∧ ∀ e ∈ gs, e.2.2.length ≤ 2000
def addN (g : List (Str × List Str)) (n : Str) : List (Str × List Str) := if n ∈ g.map (·.1) then g else g ++ [(n, [])]
def addE (g : List (Str × List Str)) (d c : Str) : List (Str × List Str) := g.map fun e => if e.1 = d then (e.1, e.2 ++ [c]) else e
def bldF (g : List (Str × List Str)) (p : Str × Str × Int) : List (Str × List Str) := addE (addN (addN g p.1) p.2.1) p.1 p.2.1
def bld (ps : List (Str × Str × Int)) : List (Str × List Str) := ps.foldl bldF []
theorem bld_snoc (ps : List (Str × Str × Int)) (p : Str × Str × Int) : bld (ps ++ [p]) = bldF (bld ps) p := by unfold bld; rw [List.foldl_append]; rfl
theorem val_map {α : Type} (f : α → Str) (v : α → V) : ∀ {l : List α} {e : α}, (l.map f).Nodup → e ∈ l → valV (l.map fun e => ((Sum.inr (f e) : Key), v e)) (Sum.inr (f e)) = some (v e)
  | [], _, _, h => nomatch h
  | a :: l, e, nd, h => by
    obtain ⟨n1, n2⟩ := List.nodup_cons.mp nd
    rw [List.map_cons]
    rcases List.mem_cons.mp h with rfl | h
    · exact valV_pos rfl
    · rw [valV_neg fun z => n1 (by injection z with z; rw [z]; exact List.mem_map.mpr ⟨e, h, rfl⟩)]
      exact val_map f v n2 h
theorem val_not {α : Type} (f : α → Str) (v : α → V) {n : Str} : ∀ {l : List α}, n ∉ l.map f → valV (l.map fun e => ((Sum.inr (f e) : Key), v e)) (Sum.inr n) = none
  | [], _ => rfl
  | a :: l, h => by
    rw [List.map_cons, valV_neg fun z => h (by injection z with z; rw [← z]; exact List.mem_cons_self)]
    exact val_not f v fun z => h (List.mem_cons_of_mem _ z)
theorem outsP_of : ∀ {g : List (Str × List Str)} {e : Str × List Str}, (g.map (·.1)).Nodup → e ∈ g → outsP g e.1 = e.2
  | [], _, _, h => nomatch h
  | a :: g, e, nd, h => by
    obtain ⟨n1, n2⟩ := List.nodup_cons.mp nd
    unfold outsP
    rw [List.find?_cons]
    rcases List.mem_cons.mp h with rfl | h
    · rw [decide_eq_true rfl]; rfl
    · rw [decide_eq_false fun z : a.1 = e.1 => n1 (by show a.1 ∈ _; rw [z]; exact List.mem_map.mpr ⟨e, h, rfl⟩)]
      exact outsP_of n2 h
theorem outsP_not {n : Str} : ∀ {g : List (Str × List Str)}, n ∉ g.map (·.1) → outsP g n = []
  | [], _ => rfl
  | a :: g, h => by
    unfold outsP
    rw [List.find?_cons, decide_eq_false fun z : a.1 = n => h (by rw [← z]; exact List.mem_cons_self)]
    exact outsP_not fun z => h (List.mem_cons_of_mem _ z)
theorem gv_names (gs : List GE) : (gs.map gv).map (·.1) = gs.map (·.1) := by rw [List.map_map]; rfl
theorem outs_of {gs : List GE} {e : GE} (nd : (gs.map (·.1)).Nodup) (h : e ∈ gs) : outs gs e.1 = e.2.2 :=
  outsP_of (g := gs.map gv) (e := gv e) (by rw [gv_names]; exact nd) (List.mem_map.mpr ⟨e, h, rfl⟩)
theorem outs_not {gs : List GE} {n : Str} (h : n ∉ gs.map (·.1)) : outs gs n = [] := outsP_not (by rw [gv_names]; exact h)
theorem Ways.getC {C : Addr} {H : Hp} {x dc dO : Addr} {gs : List GE} (w : Ways C H x dc dO gs) {e : GE} (he : e ∈ gs) : DGet H dc (.str e.1) (some (.ref e.2.1)) :=
  .inl ⟨_, Sum.inr e.1, .inl w.cr, rfl, (val_map (·.1) (fun e => V.ref e.2.1) w.nd he).symm⟩
theorem kvO_val {gs : List GE} {f : Str → Int} {n : Str} (nd : (gs.map (·.1)).Nodup) (hn : n ∈ gs.map (·.1)) : valV (kvO gs f) (Sum.inr n) = some (.int (f n)) := by
  obtain ⟨e, he, rfl⟩ := List.mem_map.mp hn
  exact val_map (·.1) (fun e => V.int (f e.1)) nd he
theorem Ways.getO {C : Addr} {H : Hp} {x dc dO : Addr} {gs : List GE} (w : Ways C H x dc dO gs) {n : Str} (hn : n ∈ gs.map (·.1)) : DGet H dO (.str n) (some (.int (indeg gs n))) :=
  .inl ⟨_, Sum.inr n, .inl w.ow, rfl, (kvO_val w.nd hn).symm⟩
theorem Ways.same {C : Addr} {H H' : Hp} {x dc dO : Addr} {gs : List GE} (w : Ways C H x dc dO gs) (s : Same H H') : Ways C H' x dc dO gs := by
  obtain ⟨⟨dx, a⟩, b, c, d, e, f, g, h, i⟩ := w
  exact ⟨⟨dx, s _ _ a⟩, s _ _ b, s _ _ c, d, fun z hz => s _ _ (e z hz), f, g, h, i⟩
theorem rvm (x : Str) (r : List Str) : (x :: r).reverse.map V.str = r.reverse.map V.str ++ [V.str x] := by rw [List.reverse_cons, List.map_append]; rfl
def unF (us : List GE) : Str → Option (List Str) := fun y => (us.find? fun e => decide (e.1 = y)).map (·.2.2)
theorem unF_cons (e : GE) (us : List GE) (y : Str) : unF (e :: us) y = if e.1 = y then some e.2.2 else unF us y := by
  unfold unF
  rw [List.find?_cons]
  by_cases c : e.1 = y
  · rw [decide_eq_true c, if_pos c]; rfl
  · rw [decide_eq_false c, if_neg c]
theorem unF_none {us : List GE} {y : Str} : unF us y = none ↔ y ∉ us.map (·.1) := by
  induction us with
  | nil => exact ⟨(fun _ z => nomatch z), (fun _ => rfl)⟩
  | cons e us ih =>
    rw [unF_cons, List.map_cons, List.mem_cons, not_or]
    by_cases c : e.1 = y
    · rw [if_pos c]; exact ⟨fun z => (nomatch z), fun z => absurd c.symm z.1⟩
    · rw [if_neg c, ih]; exact ⟨fun z => ⟨fun w => c w.symm, z⟩, fun z => z.2⟩
theorem unF_some : ∀ {us : List GE} {e : GE}, (us.map (·.1)).Nodup → e ∈ us → unF us e.1 = some e.2.2
  | [], _, _, h => nomatch h
  | a :: us, e, nd, h => by
    obtain ⟨n1, n2⟩ := List.nodup_cons.mp nd
    rw [unF_cons]
    rcases List.mem_cons.mp h with rfl | h
    · rw [if_pos rfl]
    · rw [if_neg fun z : a.1 = e.1 => n1 (by show a.1 ∈ _; rw [z]; exact List.mem_map.mpr ⟨e, h, rfl⟩)]
      exact unF_some n2 h
def repU (us : List GE) (y : Str) (l : List Str) : List GE := us.map fun e => if e.1 = y then (e.1, e.2.1, l) else e
theorem repU_names (us : List GE) (y : Str) (l : List Str) : (repU us y l).map (·.1) = us.map (·.1) := by
  unfold repU; rw [List.map_map]; exact List.map_congr_left fun e _ => by show (if e.1 = y then _ else _ : GE).1 = _; split <;> rfl
theorem repU_addr (us : List GE) (y : Str) (l : List Str) : (repU us y l).map (·.2.1) = us.map (·.2.1) := by
  unfold repU; rw [List.map_map]; exact List.map_congr_left fun e _ => by show (if e.1 = y then _ else _ : GE).2.1 = _; split <;> rfl
theorem repU_kvC (us : List GE) (y : Str) (l : List Str) : kvC (repU us y l) = kvC us := by
  unfold kvC repU; rw [List.map_map]; exact List.map_congr_left fun e _ => by
    show ((Sum.inr (if e.1 = y then _ else _ : GE).1 : Key), V.ref (if e.1 = y then _ else _ : GE).2.1) = _
    split <;> rfl
theorem unF_rep {y : Str} {l : List Str} : ∀ {us : List GE}, y ∈ us.map (·.1) → unF (repU us y l) = stu (unF us) y l := fun {us} h => by
  funext z
  induction us with
  | nil => cases h
  | cons e us ih =>
    show unF ((if e.1 = y then (e.1, e.2.1, l) else e) :: repU us y l) z = _
    rw [unF_cons]
    unfold stu
    by_cases c : e.1 = y
    · rw [if_pos c]
      show (if e.1 = z then some l else _) = _
      by_cases d : z = y
      · rw [if_pos d, if_pos (c.trans d.symm)]
      · rw [if_neg d, if_neg fun w : e.1 = z => d (w.symm.trans c), unF_cons, if_neg fun w : e.1 = z => d (w.symm.trans c)]
        by_cases m : y ∈ us.map (·.1)
        · rw [ih m]; exact stu_ne d
        · have : repU us y l = us := by
            unfold repU
            conv => rhs; rw [← List.map_id us]
            exact List.map_congr_left fun e' he' => by
              rw [if_neg fun w : e'.1 = y => m (List.mem_map.mpr ⟨e', he', w⟩)]; rfl
          rw [this]
    · rw [if_neg c]
      have m := (List.mem_cons.mp h).resolve_left fun w => c w.symm
      rw [unF_cons]
      by_cases d : z = y
      · rw [if_pos d, if_neg fun w : e.1 = z => c (w.trans d), ih m, d]; exact stu_self
      · rw [if_neg d, ih m, stu_ne d]
theorem unF_new {us : List GE} {c : Str} {L : Addr} {o : List Str} (h : c ∉ us.map (·.1)) : unF (us ++ [(c, L, o)]) = stu (unF us) c o := by
  funext z
  induction us with
  | nil =>
    show unF ((c, L, o) :: []) z = _
    rw [unF_cons]
    unfold stu
    by_cases d : z = c
    · rw [if_pos d, if_pos d.symm]
    · rw [if_neg d, if_neg fun w : c = z => d w.symm]
  | cons e us ih =>
    show unF (e :: (us ++ [(c, L, o)])) z = _
    rw [unF_cons, ih fun w => h (List.mem_cons_of_mem _ w)]
    unfold stu
    rw [unF_cons]
    by_cases d : e.1 = z
    · rw [if_pos d, if_pos d, if_neg fun w : z = c => h (by rw [← w, ← d]; exact List.mem_cons_self)]
    · rw [if_neg d, if_neg d]
def lens (us : List GE) : Nat := (us.map fun e => e.2.2.length).sum
def missG (gs : List GE) (N : List Str) : Nat := (gs.map fun e => if e.1 ∈ N then 0 else e.2.2.length + 1).sum
theorem lens_rep {y : Str} {c : Str} {l : List Str} : ∀ {us : List GE} {e : GE}, (us.map (·.1)).Nodup → e ∈ us → e.1 = y → e.2.2 = c :: l → lens (repU us y l) + 1 = lens us
  | [], _, _, h, _, _ => nomatch h
  | a :: us, e, nd, h, ey, el => by
    obtain ⟨n1, n2⟩ := List.nodup_cons.mp nd
    have e1 : lens (repU (a :: us) y l) = (if a.1 = y then (a.1, a.2.1, l) else a : GE).2.2.length + lens (repU us y l) := by unfold lens repU; rw [List.map_cons, List.map_cons, List.sum_cons]
    have e2 : lens (a :: us) = a.2.2.length + lens us := by unfold lens; rw [List.map_cons, List.sum_cons]
    rw [e1, e2]
    rcases List.mem_cons.mp h with rfl | h
    · rw [if_pos ey]
      have : repU us y l = us := by
        unfold repU
        conv => rhs; rw [← List.map_id us]
        exact List.map_congr_left fun e' he' => by
          rw [if_neg fun w : e'.1 = y => n1 (by show e.1 ∈ _; rw [ey, ← w]; exact List.mem_map.mpr ⟨e', he', rfl⟩)]; rfl
      rw [this, el, List.length_cons]
      show l.length + _ + 1 = _
      omega
    · rw [if_neg fun w : a.1 = y => n1 (by show a.1 ∈ _; rw [w, ← ey]; exact List.mem_map.mpr ⟨e, h, rfl⟩)]
      have := lens_rep n2 h ey el
      omega
theorem lens_new (us : List GE) (e : GE) : lens (us ++ [e]) = lens us + e.2.2.length := by unfold lens; rw [List.map_append, List.sum_append]; simp
theorem miss_new {N : List Str} {c : Str} (hc : c ∉ N) : ∀ {gs : List GE} {e : GE}, (gs.map (·.1)).Nodup → e ∈ gs → e.1 = c → missG gs (N ++ [c]) + (e.2.2.length + 1) = missG gs N
  | [], _, _, h, _ => nomatch h
  | a :: gs, e, nd, h, ec => by
    obtain ⟨n1, n2⟩ := List.nodup_cons.mp nd
    have e1 : ∀ M, missG (a :: gs) M = (if a.1 ∈ M then 0 else a.2.2.length + 1) + missG gs M := fun M => by unfold missG; rw [List.map_cons, List.sum_cons]
    rw [e1, e1]
    rcases List.mem_cons.mp h with rfl | h
    · rw [if_pos (by rw [ec]; exact List.mem_append_right _ List.mem_cons_self), if_neg (by rw [ec]; exact hc)]
      have : missG gs (N ++ [c]) = missG gs N := by
        unfold missG
        refine congrArg _ (List.map_congr_left fun e' he' => ?_)
        have ne : e'.1 ≠ c := fun w => n1 (by show e.1 ∈ _; rw [ec, ← w]; exact List.mem_map.mpr ⟨e', he', rfl⟩)
        by_cases m : e'.1 ∈ N
        · rw [if_pos m, if_pos (List.mem_append_left _ m)]
        · rw [if_neg m, if_neg fun w => (List.mem_append.mp w).elim m fun w => ne (List.mem_singleton.mp w)]
      omega
    · have ne : a.1 ≠ c := fun w => n1 (by show a.1 ∈ _; rw [w, ← ec]; exact List.mem_map.mpr ⟨e, h, rfl⟩)
      have ih := miss_new hc n2 h ec
      have : (a.1 ∈ N ++ [c]) ↔ a.1 ∈ N := ⟨fun w => (List.mem_append.mp w).elim id fun w => absurd (List.mem_singleton.mp w) ne, List.mem_append_left _⟩
      by_cases m : a.1 ∈ N
      · rw [if_pos m, if_pos (this.mpr m)]; omega
      · rw [if_neg m, if_neg fun w => m (this.mp w)]; omega
structure Tr (H H' : Hp) (p u : Addr) (rp : List Str) (us gs : List GE) : Prop where
  sm : Same H H'
  kp : H' p = some (.lst (rp.reverse.map V.str))
  ku : H' u = some (.dK (kvC us))
  kl : ∀ e ∈ us, H' e.2.1 = some (.lst (e.2.2.reverse.map V.str)) ∧ H e.2.1 = none ∧ e.2.1 ≠ p
  nd : (us.map (·.1)).Nodup
  ad : (us.map (·.2.1)).Nodup
  sub : ∀ e ∈ us, e.1 ∈ gs.map (·.1)
  el : ∀ e ∈ us, ∀ c ∈ e.2.2, c ∈ gs.map (·.1)
  rn : rp.Nodup
  rpu : ∀ y ∈ rp, y ∈ us.map (·.1)
theorem nd_le' {l m : List Str} (nd : l.Nodup) (h : ∀ x ∈ l, x ∈ m) : l.length ≤ m.length := by
  have : ∀ (l m : List Str), l.Nodup → (∀ x ∈ l, x ∈ m) → l.length ≤ m.length := fun l => by
    induction l with
    | nil => intro m _ _; exact Nat.zero_le _
    | cons x l ih =>
      intro m nd h
      obtain ⟨n1, n2⟩ := List.nodup_cons.mp nd
      have hx := h x List.mem_cons_self
      have := ih (m.erase x) n2 fun y hy => (List.mem_erase_of_ne (fun e : y = x => n1 (e ▸ hy))).mpr (h y (List.mem_cons_of_mem _ hy))
      rw [List.length_erase_of_mem hx] at this
      have : 0 < m.length := List.length_pos_of_mem hx
      rw [List.length_cons]
      omega
  exact this l m nd h
theorem Tr.len {H H' : Hp} {p u : Addr} {rp : List Str} {us gs : List GE} (t : Tr H H' p u rp us gs) : us.length ≤ gs.length ∧ rp.length ≤ gs.length := by
  have h1 := nd_le' t.nd (m := gs.map (·.1)) fun y hy => by obtain ⟨e, he, rfl⟩ := List.mem_map.mp hy; exact t.sub e he
  have h2 := nd_le' t.rn (m := us.map (·.1)) t.rpu
  rw [List.length_map, List.length_map] at h1
  rw [List.length_map] at h2
  omega
theorem Tr.get {H H' : Hp} {p u : Addr} {rp : List Str} {us gs : List GE} (t : Tr H H' p u rp us gs) {e : GE} (he : e ∈ us) : DGet H' u (.str e.1) (some (.ref e.2.1)) :=
  .inl ⟨_, Sum.inr e.1, .inl t.ku, rfl, (val_map (·.1) (fun e => V.ref e.2.1) t.nd he).symm⟩
theorem indeg_pos {gs : List GE} {n : Str} (nd : (gs.map (·.1)).Nodup) : 0 < indeg gs n ↔ ∃ x, n ∈ outs gs x := by
  have key : ∀ l : List GE, 0 ≤ indeg l n ∧ (0 < indeg l n ↔ ∃ e ∈ l, n ∈ e.2.2) := fun l => by
    induction l with
    | nil => exact ⟨Int.le_refl _, (fun z => absurd z (Int.lt_irrefl _)), (fun ⟨_, z, _⟩ => nomatch z)⟩
    | cons e l ih =>
      have e1 : indeg (e :: l) n = (e.2.2.count n : Int) + indeg l n := by unfold indeg; rw [List.map_cons, List.sum_cons]
      rw [e1]
      have c0 : 0 < e.2.2.count n ↔ n ∈ e.2.2 := List.count_pos_iff
      refine ⟨by omega, fun z => ?_, fun ⟨f, hf, hn⟩ => ?_⟩
      · by_cases c : n ∈ e.2.2
        · exact ⟨e, List.mem_cons_self, c⟩
        · have : ¬ 0 < e.2.2.count n := fun w => c (c0.mp w)
          obtain ⟨f, hf, hn⟩ := ih.2.mp (by omega)
          exact ⟨f, List.mem_cons_of_mem _ hf, hn⟩
      · rcases List.mem_cons.mp hf with rfl | hf
        · have := c0.mpr hn; omega
        · have := ih.2.mpr ⟨f, hf, hn⟩; omega
  rw [(key gs).2]
  constructor
  · rintro ⟨e, he, hn⟩
    exact ⟨e.1, by rw [outs_of nd he]; exact hn⟩
  · rintro ⟨x, hn⟩
    by_cases m : x ∈ gs.map (·.1)
    · obtain ⟨e, he, rfl⟩ := List.mem_map.mp m
      rw [outs_of nd he] at hn
      exact ⟨e, he, hn⟩
    · rw [outs_not m] at hn; cases hn
theorem Tr.same {H H' H2 : Hp} {p u : Addr} {rp : List Str} {us gs : List GE} (t : Tr H H' p u rp us gs) (s : Same H' H2) : Tr H H2 p u rp us gs :=
  ⟨t.sm.trans s, s _ _ t.kp, s _ _ t.ku, fun e he => ⟨s _ _ (t.kl e he).1, (t.kl e he).2⟩, t.nd, t.ad, t.sub, t.el, t.rn, t.rpu⟩
theorem Tr.pu {H H' : Hp} {p u : Addr} {rp : List Str} {us gs : List GE} (t : Tr H H' p u rp us gs) : u ≠ p := fun z => by
  have := t.ku
  rw [z, t.kp] at this
  cases this
theorem Tr.lu {H H' : Hp} {p u : Addr} {rp : List Str} {us gs : List GE} (t : Tr H H' p u rp us gs) {e : GE} (he : e ∈ us) : e.2.1 ≠ u := fun z => by
  have := (t.kl e he).1
  rw [z, t.ku] at this
  cases this
theorem Tr.back {H H' : Hp} {p u : Addr} {y : Str} {rp : List Str} {us gs : List GE} (t : Tr H H' p u (y :: rp) us gs) (fp : H p = none) : Tr H (upd H' p (.lst (rp.reverse.map V.str))) p u rp us gs :=
  ⟨same_updN t.sm fp, upd_same, upd_oth t.ku t.pu, fun e he => ⟨upd_oth (t.kl e he).1 (t.kl e he).2.2, (t.kl e he).2⟩, t.nd, t.ad, t.sub, t.el, (List.nodup_cons.mp t.rn).2, fun z hz => t.rpu z (List.mem_cons_of_mem _ hz)⟩
theorem ad_ne : ∀ {us : List GE} {e f : GE}, (us.map (·.2.1)).Nodup → e ∈ us → f ∈ us → f.1 ≠ e.1 → f.2.1 ≠ e.2.1 := fun {us} {e f} nd he hf ne z => by
  obtain ⟨i, hi⟩ := List.mem_iff_getElem?.mp he
  obtain ⟨j, hj⟩ := List.mem_iff_getElem?.mp hf
  have li := (List.getElem?_eq_some_iff.mp hi).1
  have lj := (List.getElem?_eq_some_iff.mp hj).1
  have e1 : (us.map (·.2.1))[i]? = some e.2.1 := by rw [List.getElem?_map, hi]; rfl
  have e2 : (us.map (·.2.1))[j]? = some e.2.1 := by rw [List.getElem?_map, hj, ← z]; rfl
  have : i = j := by
    exact (List.getElem?_inj (by rw [List.length_map]; exact li) nd).mp (e1.trans e2.symm)
  rw [this, hj] at hi
  exact ne (by rw [Option.some.inj hi])
theorem mem_repU {us : List GE} {y : Str} {l : List Str} {e : GE} (h : e ∈ repU us y l) : (e ∈ us ∧ e.1 ≠ y) ∨ ∃ f ∈ us, f.1 = y ∧ e = (f.1, f.2.1, l) := by
  obtain ⟨f, hf, rfl⟩ := List.mem_map.mp h
  by_cases c : f.1 = y
  · rw [if_pos c]; exact .inr ⟨f, hf, c, rfl⟩
  · rw [if_neg c]; exact .inl ⟨hf, c⟩
theorem nd_one {us : List GE} {e f : GE} (nd : (us.map (·.1)).Nodup) (he : e ∈ us) (hf : f ∈ us) (h : f.1 = e.1) : f = e := by
  obtain ⟨i, hi⟩ := List.mem_iff_getElem?.mp he
  obtain ⟨j, hj⟩ := List.mem_iff_getElem?.mp hf
  have li := (List.getElem?_eq_some_iff.mp hi).1
  have e1 : (us.map (·.1))[i]? = some e.1 := by rw [List.getElem?_map, hi]; rfl
  have e2 : (us.map (·.1))[j]? = some e.1 := by rw [List.getElem?_map, hj, ← h]; rfl
  have := (List.getElem?_inj (by rw [List.length_map]; exact li) nd).mp (e1.trans e2.symm)
  rw [this, hj] at hi
  exact Option.some.inj hi
theorem Tr.pop {H H' : Hp} {p u : Addr} {rp : List Str} {us gs : List GE} (t : Tr H H' p u rp us gs) {e : GE} (he : e ∈ us) {c : Str} {l : List Str} (el : e.2.2 = c :: l) : Tr H (upd H' e.2.1 (.lst (l.reverse.map V.str))) p u rp (repU us e.1 l) gs := by
  have k := t.kl e he
  refine ⟨same_updN t.sm k.2.1, upd_oth t.kp k.2.2.symm, by rw [repU_kvC]; exact upd_oth t.ku (t.lu he).symm, fun f hf => ?_, by rw [repU_names]; exact t.nd, by rw [repU_addr]; exact t.ad, fun f hf => ?_, fun f hf z hz => ?_, t.rn, fun z hz => by rw [repU_names]; exact t.rpu z hz⟩
  · rcases mem_repU hf with ⟨hf, ne⟩ | ⟨g, hg, ge, rfl⟩
    · exact ⟨upd_oth (t.kl f hf).1 (ad_ne t.ad he hf ne), (t.kl f hf).2⟩
    · cases nd_one t.nd he hg ge
      exact ⟨upd_same, k.2⟩
  · rcases mem_repU hf with ⟨hf, _⟩ | ⟨g, hg, ge, rfl⟩
    · exact t.sub f hf
    · exact t.sub g hg
  · rcases mem_repU hf with ⟨hf, _⟩ | ⟨g, hg, ge, rfl⟩
    · exact t.el f hf z hz
    · exact t.el e he z (by rw [el]; exact List.mem_cons_of_mem _ hz)
theorem Tr.new {H H' : Hp} {p u L : Addr} {rp : List Str} {us gs : List GE} {c : Str} {o : List Str} (t : Tr H H' p u rp us gs) (fp : H p = none) (fu : H u = none) (hL : H' L = none) (hc : c ∈ gs.map (·.1)) (nc : c ∉ us.map (·.1)) (ho : ∀ z ∈ o, z ∈ gs.map (·.1)) :
    Tr H (upd (upd (upd H' L (.lst (o.reverse.map V.str))) u (.dK (kvC (us ++ [(c, L, o)])))) p (.lst ((c :: rp).reverse.map V.str))) p u (c :: rp) (us ++ [(c, L, o)]) gs := by
  have nLp : L ≠ p := fun z => by rw [z, t.kp] at hL; cases hL
  have nLu : L ≠ u := fun z => by rw [z, t.ku] at hL; cases hL
  have old : ∀ e ∈ us, e.2.1 ≠ L := fun e he z => by have := (t.kl e he).1; rw [z, hL] at this; cases this
  refine ⟨same_updN (same_updN (t.sm.trans (same_upd hL)) fu) fp, upd_same, upd_oth upd_same t.pu, fun e he => ?_, ?_, ?_, fun e he => ?_, fun e he => ?_, List.nodup_cons.mpr ⟨fun z => nc (t.rpu c z), t.rn⟩, fun z hz => ?_⟩
  · rcases List.mem_append.mp he with he | he
    · exact ⟨upd_oth (upd_oth (at_upd (t.kl e he).1 hL) (t.lu he)) (t.kl e he).2.2, (t.kl e he).2⟩
    · rw [List.mem_singleton.mp he]
      exact ⟨upd_oth (upd_oth upd_same nLu) nLp, t.sm.free hL, nLp⟩
  · rw [List.map_append, List.nodup_append]
    refine ⟨t.nd, by simp, fun a ha b hb z => ?_⟩
    rw [List.mem_singleton.mp hb] at z
    have z : a = c := z
    exact nc (z ▸ ha)
  · rw [List.map_append, List.nodup_append]
    refine ⟨t.ad, by simp, fun a ha b hb z => ?_⟩
    obtain ⟨e, he, rfl⟩ := List.mem_map.mp ha
    rw [List.mem_singleton.mp hb] at z
    exact old e he z
  · rcases List.mem_append.mp he with he | he
    · exact t.sub e he
    · rw [List.mem_singleton.mp he]; exact hc
  · rcases List.mem_append.mp he with he | he
    · exact t.el e he
    · rw [List.mem_singleton.mp he]; exact ho
  · rw [List.map_append]
    rcases List.mem_cons.mp hz with rfl | hz
    · exact List.mem_append_right _ List.mem_cons_self
    · exact List.mem_append_left _ (t.rpu z hz)
theorem kvC_put {us : List GE} {c : Str} {L : Addr} {o : List Str} (nc : c ∉ us.map (·.1)) : putK (kvC us) (Sum.inr c) (.ref L) = kvC (us ++ [(c, L, o)]) := by
  have nv : valV (kvC us) (Sum.inr c) = none := val_not (α := GE) (fun e => e.1) (fun e => V.ref e.2.1) nc
  rw [putK_new (V.ref L) nv]
  unfold kvC
  rw [List.map_append]
  rfl
theorem List.getElem?_concat_length' {α : Type} {xs : List α} {v : α} : (xs ++ [v])[(xs ++ [v]).length - 1]? = some v := by
  rw [List.length_append, List.getElem?_append_right (by show _ ≤ _ + 1 - 1; omega), show xs.length + [v].length - 1 - xs.length = 0 by show _ + 1 - 1 - _ = 0; omega]
  rfl
def RInv (H : Hp) (x p u : Addr) (n : Str) (gs : List GE) (m : Nat) (σ' : St) (H' : Hp) : Prop := ∃ (rp : List Str) (us : List GE) (v4 : Option V), m = 2 * missG gs (us.map (·.1)) + 2 * lens us + rp.length ∧ σ' = [some (.ref x), some (.str n), some (.ref p), some (.ref u), v4] ∧ Tr H H' p u rp us gs ∧ ∀ r, Walk (outs gs) n rp (unF us) r → Walk (outs gs) n [n] (stu (fun _ => none) n (outs gs n)) r
def repL (us : List GE) (y : Str) (a : Addr) (l : List Str) : List GE := us.map fun e => if e.1 = y then (e.1, a, l) else e
theorem repL_names (us : List GE) (y : Str) (a : Addr) (l : List Str) : (repL us y a l).map (·.1) = us.map (·.1) := by
  unfold repL; rw [List.map_map]; exact List.map_congr_left fun e _ => by show (if e.1 = y then _ else _ : GE).1 = _; split <;> rfl
theorem mem_repL {us : List GE} {y : Str} {a : Addr} {l : List Str} {e : GE} (h : e ∈ repL us y a l) : (e ∈ us ∧ e.1 ≠ y) ∨ ∃ f ∈ us, f.1 = y ∧ e = (f.1, a, l) := by
  obtain ⟨f, hf, rfl⟩ := List.mem_map.mp h
  by_cases c : f.1 = y
  · rw [if_pos c]; exact .inr ⟨f, hf, c, rfl⟩
  · rw [if_neg c]; exact .inl ⟨hf, c⟩
theorem repL_id {us : List GE} {y : Str} {a : Addr} {l : List Str} (h : y ∉ us.map (·.1)) : repL us y a l = us := by
  unfold repL
  conv => rhs; rw [← List.map_id us]
  exact List.map_congr_left fun e he => by rw [if_neg fun w : e.1 = y => h (List.mem_map.mpr ⟨e, he, w⟩)]; rfl
theorem put_map {α : Type} (f : α → Str) (v : α → V) {y : Str} {u : V} {l : List α} (h : y ∈ l.map f) : putK (l.map fun e => ((Sum.inr (f e) : Key), v e)) (Sum.inr y) u = l.map fun e => ((Sum.inr (f e) : Key), if f e = y then u else v e) := by
  unfold putK
  rw [if_pos]
  · rw [List.map_map]
    refine List.map_congr_left fun e _ => ?_
    show (if (Sum.inr (f e) : Key) = Sum.inr y then _ else _) = _
    by_cases c : f e = y
    · rw [if_pos (by rw [c]), if_pos c]
    · rw [if_neg fun w => c (by injection w), if_neg c]
  · obtain ⟨e, he, ee⟩ := List.mem_map.mp h
    rw [List.any_map]
    exact List.any_eq_true.mpr ⟨e, he, decide_eq_true (by show (Sum.inr (f e) : Key) = _; rw [ee])⟩
theorem kvC_repL {us : List GE} {y : Str} {a : Addr} {l : List Str} (h : y ∈ us.map (·.1)) : putK (kvC us) (Sum.inr y) (.ref a) = kvC (repL us y a l) := by
  have := put_map (α := GE) (fun e => e.1) (fun e => V.ref e.2.1) (u := .ref a) h
  refine this.trans ?_
  unfold kvC repL
  rw [List.map_map]
  refine List.map_congr_left fun e _ => ?_
  show _ = ((Sum.inr (if e.1 = y then _ else _ : GE).1 : Key), V.ref (if e.1 = y then _ else _ : GE).2.1)
  split <;> rfl
theorem kvO_put {us : List GE} {f : Str → Int} {y : Str} {v : Int} (h : y ∈ us.map (·.1)) : putK (kvO us f) (Sum.inr y) (.int v) = kvO us fun z => if z = y then v else f z := by
  have := put_map (α := GE) (fun e => e.1) (fun e => V.int (f e.1)) (u := .int v) h
  refine this.trans ?_
  unfold kvO
  refine List.map_congr_left fun e _ => ?_
  show ((Sum.inr e.1 : Key), (if e.1 = y then V.int v else V.int (f e.1))) = ((Sum.inr e.1 : Key), V.int (if e.1 = y then v else f e.1))
  split <;> rfl
theorem kvO_names {us vs : List GE} {f : Str → Int} (h : us.map (·.1) = vs.map (·.1)) : kvO us f = kvO vs f := by
  have e : ∀ l : List GE, kvO l f = (l.map (·.1)).map fun n => ((Sum.inr n : Key), V.int (f n)) := fun l => by unfold kvO; rw [List.map_map]; rfl
  rw [e, e, h]
theorem outs_repL {us : List GE} {y : Str} {a : Addr} {l : List Str} (nd : (us.map (·.1)).Nodup) (h : y ∈ us.map (·.1)) : outs (repL us y a l) = fun z => if z = y then l else outs us z := by
  funext z
  have nd2 : ((repL us y a l).map (·.1)).Nodup := by rw [repL_names]; exact nd
  by_cases m : z ∈ us.map (·.1)
  · obtain ⟨e, he, rfl⟩ := List.mem_map.mp m
    have hm : (if e.1 = y then (e.1, a, l) else e : GE) ∈ repL us y a l := List.mem_map.mpr ⟨e, he, rfl⟩
    by_cases c : e.1 = y
    · rw [if_pos c] at hm ⊢
      exact outs_of nd2 hm
    · rw [if_neg c] at hm ⊢
      rw [outs_of nd2 hm, outs_of nd he]
  · rw [outs_not (by rw [repL_names]; exact m), if_neg (fun w : z = y => m (by rw [w]; exact h)), outs_not m]
theorem indeg_repL {a : Addr} {l : List Str} {z : Str} : ∀ {us : List GE} {e : GE}, (us.map (·.1)).Nodup → e ∈ us → indeg (repL us e.1 a l) z = indeg us z - (e.2.2.count z : Int) + (l.count z : Int)
  | [], _, _, h => nomatch h
  | f :: us, e, nd, h => by
    obtain ⟨n1, n2⟩ := List.nodup_cons.mp nd
    have e1 : indeg (repL (f :: us) e.1 a l) z = ((if f.1 = e.1 then (f.1, a, l) else f : GE).2.2.count z : Int) + indeg (repL us e.1 a l) z := by unfold indeg repL; rw [List.map_cons, List.map_cons, List.sum_cons]
    have e2 : indeg (f :: us) z = (f.2.2.count z : Int) + indeg us z := by unfold indeg; rw [List.map_cons, List.sum_cons]
    rw [e1, e2]
    rcases List.mem_cons.mp h with rfl | h
    · rw [if_pos rfl, repL_id n1]
      show (l.count z : Int) + _ = _
      omega
    · rw [if_neg fun w : f.1 = e.1 => n1 (by show f.1 ∈ _; rw [w]; exact List.mem_map.mpr ⟨e, h, rfl⟩), indeg_repL n2 h]
      omega
theorem take_count {l : List Str} {i : Nat} {c : Str} (h : l[i]? = some c) (z : Str) : ((l.take (i + 1)).count z : Int) = ((l.take i).count z : Int) + if z = c then 1 else 0 := by
  rw [List.take_add_one, h, List.count_append]
  show _ = _
  by_cases e : z = c
  · rw [if_pos e, e]; simp
  · rw [if_neg e]
    have : ([c] : List Str).count z = 0 := List.count_eq_zero.mpr fun w => e (List.mem_singleton.mp w)
    show ((_ + ([c] : List Str).count z : Nat) : Int) = _
    rw [this]; simp
theorem repL_ad {y : Str} {a : Addr} {l : List Str} : ∀ {us : List GE}, (us.map (·.1)).Nodup → (us.map (·.2.1)).Nodup → (∀ f ∈ us, f.2.1 ≠ a) → ((repL us y a l).map (·.2.1)).Nodup
  | [], _, _, _ => List.nodup_nil
  | f :: us, n1, n2, h => by
    obtain ⟨a1, a2⟩ := List.nodup_cons.mp n1
    obtain ⟨b1, b2⟩ := List.nodup_cons.mp n2
    have hu : ∀ g ∈ us, g.2.1 ≠ a := fun g hg => h g (List.mem_cons_of_mem _ hg)
    show ((if f.1 = y then (f.1, a, l) else f : GE).2.1 :: (repL us y a l).map (·.2.1)).Nodup
    by_cases c : f.1 = y
    · rw [if_pos c, repL_id (by rw [← c]; exact a1)]
      refine List.nodup_cons.mpr ⟨fun z => ?_, b2⟩
      obtain ⟨g, hg, eg⟩ := List.mem_map.mp z
      exact hu g hg eg
    · rw [if_neg c]
      refine List.nodup_cons.mpr ⟨fun z => ?_, repL_ad a2 b2 hu⟩
      obtain ⟨g, hg, eg⟩ := List.mem_map.mp z
      rcases mem_repL hg with ⟨hg, _⟩ | ⟨g', hg', _, rfl⟩
      · exact b1 (List.mem_map.mpr ⟨g, hg, eg⟩)
      · exact h f List.mem_cons_self eg.symm
theorem Ways.xd {C : Addr} {H : Hp} {x dc dO : Addr} {gs : List GE} (w : Ways C H x dc dO gs) : x ≠ dc ∧ x ≠ dO ∧ ∀ e ∈ gs, e.2.1 ≠ x ∧ e.2.1 ≠ dc ∧ e.2.1 ≠ dO := by
  obtain ⟨dx, hx⟩ := w.ins
  refine ⟨fun z => ?_, fun z => ?_, fun e he => ⟨fun z => ?_, fun z => ?_, fun z => ?_⟩⟩
  · have := w.cr; rw [← z, hx] at this; cases this
  · have := w.ow; rw [← z, hx] at this; cases this
  · have := w.ls e he; rw [z, hx] at this; cases this
  · have := w.ls e he; rw [z, w.cr] at this; cases this
  · have := w.ls e he; rw [z, w.ow] at this; cases this
theorem indeg_out {gs : List GE} {n : Str} (h : ∀ e ∈ gs, n ∉ e.2.2) : indeg gs n = 0 := by
  induction gs with
  | nil => rfl
  | cons e gs ih =>
    have e1 : indeg (e :: gs) n = (e.2.2.count n : Int) + indeg gs n := by unfold indeg; rw [List.map_cons, List.sum_cons]
    rw [e1, ih fun f hf => h f (List.mem_cons_of_mem _ hf), List.count_eq_zero.mpr (h e List.mem_cons_self)]
    rfl
theorem Ways.add {C : Addr} {H : Hp} {x dc dO l0 : Addr} {gs : List GE} {n : Str} (w : Ways C H x dc dO gs) (hn : n ∉ gs.map (·.1)) (hl : H l0 = none) (l2 : gs.length < 2000) :
    Ways C (upd (upd (upd H l0 (.lst [])) dc (.dK (kvC gs ++ [(Sum.inr n, .ref l0)]))) dO (.dK (kvO gs (indeg gs) ++ [(Sum.inr n, .int 0)]))) x dc dO (gs ++ [(n, l0, [])]) := by
  obtain ⟨dx, hx⟩ := w.ins
  obtain ⟨d1, d2, d3⟩ := w.xd
  have nl : l0 ≠ dc ∧ l0 ≠ dO := ⟨(fun z => by rw [z, w.cr] at hl; cases hl), (fun z => by rw [z, w.ow] at hl; cases hl)⟩
  have ind : ∀ z, indeg (gs ++ [(n, l0, [])]) z = indeg gs z := fun z => by unfold indeg; rw [List.map_append, List.sum_append]; simp
  have i0 : indeg gs n = 0 := indeg_out fun e he z => hn (w.cl e he n z)
  refine ⟨⟨dx, upd_oth (upd_oth (at_upd hx hl) d1) d2⟩, ?_, ?_, w.ne, fun e he => ?_, ?_, ?_, fun e he y hy => ?_, ⟨by rw [List.length_append]; show _ + 1 ≤ _; omega, fun e he => ?_⟩⟩
  · rw [upd_oth (upd_same (H := upd H l0 (.lst []))) w.ne]
    unfold kvC
    rw [List.map_append]
    rfl
  · rw [upd_same]
    unfold kvO
    rw [List.map_append]
    have : gs.map (fun e => ((Sum.inr e.1 : Key), V.int (indeg (gs ++ [(n, l0, [])]) e.1))) = gs.map fun e => ((Sum.inr e.1 : Key), V.int (indeg gs e.1)) := List.map_congr_left fun e _ => by rw [ind]
    rw [this]
    show _ = some (HO.dK (_ ++ [((Sum.inr n : Key), V.int (indeg (gs ++ [(n, l0, [])]) n))]))
    rw [ind, i0]
  · rcases List.mem_append.mp he with he | he
    · exact upd_oth (upd_oth (at_upd (w.ls e he) hl) (d3 e he).2.1) (d3 e he).2.2
    · rw [List.mem_singleton.mp he]
      exact upd_oth (upd_oth upd_same nl.1) nl.2
  · rw [List.map_append, List.nodup_append]
    refine ⟨w.nd, by simp, fun a ha b hb z => ?_⟩
    have z : a = n := z.trans (List.mem_singleton.mp hb)
    exact hn (z ▸ ha)
  · rw [List.map_append, List.nodup_append]
    refine ⟨w.ad, by simp, fun a ha b hb z => ?_⟩
    obtain ⟨e, he, rfl⟩ := List.mem_map.mp ha
    have z : e.2.1 = l0 := z.trans (List.mem_singleton.mp hb)
    have := w.ls e he
    rw [z, hl] at this
    cases this
  · rw [List.map_append]
    rcases List.mem_append.mp he with he | he
    · exact List.mem_append_left _ (w.cl e he y hy)
    · rw [List.mem_singleton.mp he] at hy; cases hy
  · rcases List.mem_append.mp he with he | he
    · exact w.ln.2 e he
    · rw [List.mem_singleton.mp he]; exact Nat.zero_le _
theorem repL_kvC {us : List GE} {e : GE} {l : List Str} (nd : (us.map (·.1)).Nodup) (he : e ∈ us) : kvC (repL us e.1 e.2.1 l) = kvC us := by
  unfold kvC repL
  rw [List.map_map]
  refine List.map_congr_left fun f hf => ?_
  show ((Sum.inr (if f.1 = e.1 then _ else _ : GE).1 : Key), V.ref (if f.1 = e.1 then _ else _ : GE).2.1) = _
  by_cases c : f.1 = e.1
  · rw [if_pos c, nd_one nd he hf c]
  · rw [if_neg c]
theorem repL_addr {us : List GE} {e : GE} {l : List Str} (nd : (us.map (·.1)).Nodup) (he : e ∈ us) : (repL us e.1 e.2.1 l).map (·.2.1) = us.map (·.2.1) := by
  unfold repL
  rw [List.map_map]
  refine List.map_congr_left fun f hf => ?_
  show (if f.1 = e.1 then _ else _ : GE).2.1 = _
  by_cases c : f.1 = e.1
  · rw [if_pos c, nd_one nd he hf c]
  · rw [if_neg c]
theorem Ways.edge {C : Addr} {H : Hp} {x dc dO : Addr} {gs : List GE} {e : GE} {c : Str} (w : Ways C H x dc dO gs) (he : e ∈ gs) (hc : c ∈ gs.map (·.1)) (l2 : e.2.2.length < 2000) :
    Ways C (upd (upd H e.2.1 (.lst ((e.2.2 ++ [c]).map V.str))) dO (.dK (kvO gs fun z => if z = c then indeg gs c + 1 else indeg gs z))) x dc dO (repL gs e.1 e.2.1 (e.2.2 ++ [c])) := by
  obtain ⟨dx, hx⟩ := w.ins
  obtain ⟨d1, d2, d3⟩ := w.xd
  have de := d3 e he
  refine ⟨⟨dx, upd_oth (upd_oth hx de.1.symm) d2⟩, ?_, ?_, w.ne, fun f hf => ?_, by rw [repL_names]; exact w.nd, by rw [repL_addr w.nd he]; exact w.ad, fun f hf y hy => ?_, ⟨by unfold repL; rw [List.length_map]; exact w.ln.1, fun f hf => ?_⟩⟩
  · rw [repL_kvC w.nd he]
    exact upd_oth (upd_oth w.cr de.2.1.symm) w.ne
  · rw [upd_same, kvO_names (repL_names gs e.1 e.2.1 (e.2.2 ++ [c]))]
    have : (fun z => if z = c then indeg gs c + 1 else indeg gs z) = indeg (repL gs e.1 e.2.1 (e.2.2 ++ [c])) := funext fun z => by
      rw [indeg_repL w.nd he, List.count_append]
      by_cases d : z = c
      · rw [if_pos d, d]; simp; omega
      · rw [if_neg d]
        have : ([c] : List Str).count z = 0 := List.count_eq_zero.mpr fun w => d (List.mem_singleton.mp w)
        rw [this]
        omega
    rw [this]
  · rcases mem_repL hf with ⟨hf, ne⟩ | ⟨g, hg, ge, rfl⟩
    · exact upd_oth (upd_oth (w.ls f hf) (ad_ne w.ad he hf ne)) (d3 f hf).2.2
    · exact upd_oth upd_same de.2.2
  · rw [repL_names]
    rcases mem_repL hf with ⟨hf, _⟩ | ⟨g, hg, ge, rfl⟩
    · exact w.cl f hf y hy
    · rcases List.mem_append.mp hy with hy | hy
      · exact w.cl e he y hy
      · rw [List.mem_singleton.mp hy]; exact hc
  · rcases mem_repL hf with ⟨hf, _⟩ | ⟨g, hg, ge, rfl⟩
    · exact w.ln.2 f hf
    · show (e.2.2 ++ [c]).length ≤ 2000
      rw [List.length_append]; show _ + 1 ≤ _; omega
theorem gv_add {gs : List GE} {n : Str} {l0 : Addr} (hn : n ∉ gs.map (·.1)) : (gs ++ [(n, l0, [])]).map gv = addN (gs.map gv) n := by
  unfold addN
  rw [gv_names, if_neg hn, List.map_append]
  rfl
theorem gv_old {gs : List GE} {n : Str} (hn : n ∈ gs.map (·.1)) : gs.map gv = addN (gs.map gv) n := by
  unfold addN
  rw [gv_names, if_pos hn]
theorem gv_edge {gs : List GE} {e : GE} {c : Str} (nd : (gs.map (·.1)).Nodup) (he : e ∈ gs) : (repL gs e.1 e.2.1 (e.2.2 ++ [c])).map gv = addE (gs.map gv) e.1 c := by
  unfold repL addE
  rw [List.map_map, List.map_map]
  refine List.map_congr_left fun f hf => ?_
  show gv (if f.1 = e.1 then _ else _ : GE) = if f.1 = e.1 then (f.1, f.2.2 ++ [c]) else gv f
  by_cases d : f.1 = e.1
  · rw [if_pos d, if_pos d, nd_one nd he hf d]; rfl
  · rw [if_neg d, if_neg d]
structure IInv (C : Addr) (H H' : Hp) (x dc dO : Addr) (gs : List GE) (a k : Nat) : Prop where
  wy : Ways C H' x dc dO gs
  fr : ∀ b o, b ≠ x → H b = some o → H' b = some o
  fl : ∀ e ∈ gs, H e.2.1 = none
  l1 : gs.length ≤ a
  l2 : ∀ e ∈ gs, e.2.2.length ≤ k
theorem IInv.same {C : Addr} {H H' H2 : Hp} {x dc dO : Addr} {gs : List GE} {a k : Nat} (i : IInv C H H' x dc dO gs a k) (s : Same H' H2) : IInv C H H2 x dc dO gs a k :=
  ⟨i.wy.same s, fun b o nb hb => s _ _ (i.fr b o nb hb), i.fl, i.l1, i.l2⟩
theorem IInv.more {C : Addr} {H H' : Hp} {x dc dO : Addr} {gs : List GE} {a k b l : Nat} (i : IInv C H H' x dc dO gs a k) (h1 : a ≤ b) (h2 : k ≤ l) : IInv C H H' x dc dO gs b l :=
  ⟨i.wy, i.fr, i.fl, Nat.le_trans i.l1 h1, fun e he => Nat.le_trans (i.l2 e he) h2⟩
theorem IInv.add {C : Addr} {H H' : Hp} {x dc dO l0 : Addr} {gs : List GE} {n : Str} {a k : Nat} (i : IInv C H H' x dc dO gs a k) (fc : H dc = none) (fo : H dO = none) (hx : ∃ o, H x = some o) (hn : n ∉ gs.map (·.1)) (hl : H' l0 = none) (ha : a < 2000) :
    IInv C H (upd (upd (upd H' l0 (.lst [])) dc (.dK (kvC gs ++ [(Sum.inr n, .ref l0)]))) dO (.dK (kvO gs (indeg gs) ++ [(Sum.inr n, .int 0)]))) x dc dO (gs ++ [(n, l0, [])]) (a + 1) k := by
  have nx : l0 ≠ x := fun z => by obtain ⟨dx, h⟩ := i.wy.ins; rw [z, h] at hl; cases hl
  have f0 : H l0 = none := by
    cases c : H l0 with
    | none => rfl
    | some o => rw [i.fr l0 o nx c] at hl; cases hl
  refine ⟨i.wy.add hn hl (Nat.lt_of_le_of_lt i.l1 ha), fun b o nb hb => ?_, fun e he => ?_, by rw [List.length_append]; exact Nat.succ_le_succ i.l1, fun e he => ?_⟩
  · have n1 : b ≠ dc := fun z => by rw [z, fc] at hb; cases hb
    have n2 : b ≠ dO := fun z => by rw [z, fo] at hb; cases hb
    exact upd_oth (upd_oth (at_upd (i.fr b o nb hb) hl) n1) n2
  · rcases List.mem_append.mp he with he | he
    · exact i.fl e he
    · rw [List.mem_singleton.mp he]; exact f0
  · rcases List.mem_append.mp he with he | he
    · exact i.l2 e he
    · rw [List.mem_singleton.mp he]; exact Nat.zero_le _
theorem IInv.edge {C : Addr} {H H' : Hp} {x dc dO : Addr} {gs : List GE} {e : GE} {c : Str} {a k : Nat} (i : IInv C H H' x dc dO gs a k) (fo : H dO = none) (he : e ∈ gs) (hc : c ∈ gs.map (·.1)) (hk : k < 2000) :
    IInv C H (upd (upd H' e.2.1 (.lst ((e.2.2 ++ [c]).map V.str))) dO (.dK (kvO gs fun z => if z = c then indeg gs c + 1 else indeg gs z))) x dc dO (repL gs e.1 e.2.1 (e.2.2 ++ [c])) a (k + 1) := by
  refine ⟨i.wy.edge he hc (Nat.lt_of_le_of_lt (i.l2 e he) hk), fun b o nb hb => ?_, fun f hf => ?_, by unfold repL; rw [List.length_map]; exact i.l1, fun f hf => ?_⟩
  · have n1 : b ≠ e.2.1 := fun z => by rw [z, i.fl e he] at hb; cases hb
    have n2 : b ≠ dO := fun z => by rw [z, fo] at hb; cases hb
    exact upd_oth (upd_oth (i.fr b o nb hb) n1) n2
  · rcases mem_repL hf with ⟨hf, _⟩ | ⟨g, hg, ge, rfl⟩
    · exact i.fl f hf
    · exact i.fl e he
  · rcases mem_repL hf with ⟨hf, _⟩ | ⟨g, hg, ge, rfl⟩
    · exact Nat.le_succ_of_le (i.l2 f hf)
    · show (e.2.2 ++ [c]).length ≤ _
      rw [List.length_append]; exact Nat.succ_le_succ (i.l2 e he)
theorem addN_mem (g : List (Str × List Str)) (n : Str) : n ∈ (addN g n).map (·.1) ∧ ∀ m ∈ g.map (·.1), m ∈ (addN g n).map (·.1) := by
  unfold addN
  split
  · rename_i c; exact ⟨c, fun m hm => hm⟩
  · rw [List.map_append]
    exact ⟨List.mem_append_right _ List.mem_cons_self, fun m hm => List.mem_append_left _ hm⟩
abbrev k2 (x y : Str) : List Key := [Sum.inr x, Sum.inr y]
theorem outsP_app (g h : List (Str × List Str)) (x : Str) : outsP (g ++ h) x = if x ∈ g.map (·.1) then outsP g x else outsP h x := by
  induction g with
  | nil => rfl
  | cons e g ih =>
    have e1 : ∀ t : List (Str × List Str), outsP (e :: t) x = if e.1 = x then e.2 else outsP t x := fun t => by
      unfold outsP
      rw [List.find?_cons]
      by_cases c : e.1 = x
      · rw [decide_eq_true c, if_pos c]; rfl
      · rw [decide_eq_false c, if_neg c]
    rw [List.cons_append, e1, e1, List.map_cons]
    by_cases c : e.1 = x
    · rw [if_pos c, if_pos c, if_pos (by rw [c]; exact List.mem_cons_self)]
    · rw [if_neg c, if_neg c, ih]
      by_cases m : x ∈ g.map (·.1)
      · rw [if_pos m, if_pos (List.mem_cons_of_mem _ m)]
      · rw [if_neg m, if_neg fun w => (List.mem_cons.mp w).elim (fun z => c z.symm) m]
theorem addN_outs (g : List (Str × List Str)) (n x : Str) : outsP (addN g n) x = outsP g x := by
  unfold addN
  split
  · rfl
  · rw [outsP_app]
    by_cases m : x ∈ g.map (·.1)
    · rw [if_pos m]
    · rw [if_neg m, outsP_not m]
      unfold outsP
      rw [List.find?_cons]
      by_cases c : n = x
      · rw [decide_eq_true c]; rfl
      · rw [decide_eq_false c]; rfl
theorem addN_nd {g : List (Str × List Str)} (n : Str) (h : (g.map (·.1)).Nodup) : ((addN g n).map (·.1)).Nodup := by
  unfold addN
  split
  · exact h
  · rename_i c
    rw [List.map_append, List.nodup_append]
    refine ⟨h, by simp, fun a ha b hb z => ?_⟩
    have z : a = n := z.trans (List.mem_singleton.mp hb)
    exact c (z ▸ ha)
theorem addE_names (g : List (Str × List Str)) (d c : Str) : (addE g d c).map (·.1) = g.map (·.1) := by
  unfold addE; rw [List.map_map]; exact List.map_congr_left fun e _ => by show (if e.1 = d then _ else _ : Str × List Str).1 = _; split <;> rfl
theorem addE_outs {g : List (Str × List Str)} {d c : Str} (nd : (g.map (·.1)).Nodup) (hd : d ∈ g.map (·.1)) (x y : Str) : y ∈ outsP (addE g d c) x ↔ y ∈ outsP g x ∨ (x = d ∧ y = c) := by
  have nd2 : ((addE g d c).map (·.1)).Nodup := by rw [addE_names]; exact nd
  by_cases m : x ∈ g.map (·.1)
  · obtain ⟨e, he, rfl⟩ := List.mem_map.mp m
    have hm : (if e.1 = d then (e.1, e.2 ++ [c]) else e : Str × List Str) ∈ addE g d c := List.mem_map.mpr ⟨e, he, rfl⟩
    rw [outsP_of nd he]
    by_cases k : e.1 = d
    · rw [if_pos k] at hm
      have := outsP_of nd2 hm
      rw [show outsP (addE g d c) e.1 = e.2 ++ [c] from this, List.mem_append]
      exact ⟨fun w => w.imp id fun w => ⟨k, List.mem_singleton.mp w⟩, fun w => w.imp id fun w => List.mem_singleton.mpr w.2⟩
    · rw [if_neg k] at hm
      rw [outsP_of nd2 hm]
      exact ⟨.inl, fun w => w.resolve_right fun z => k z.1⟩
  · rw [outsP_not (by rw [addE_names]; exact m), outsP_not m]
    exact ⟨fun w => (nomatch w), fun w => w.elim id fun z => absurd (z.1 ▸ hd) m⟩
theorem bldF_ok {g : List (Str × List Str)} (p : Str × Str × Int) (nd : (g.map (·.1)).Nodup) : ((bldF g p).map (·.1)).Nodup ∧ (∀ x y, y ∈ outsP (bldF g p) x ↔ y ∈ outsP g x ∨ (x = p.1 ∧ y = p.2.1)) ∧ ∀ n ∈ (bldF g p).map (·.1), n ∈ g.map (·.1) ∨ n = p.1 ∨ n = p.2.1 := by
  have n1 := addN_nd p.1 nd
  have n2 := addN_nd p.2.1 n1
  have m1 : p.1 ∈ (addN (addN g p.1) p.2.1).map (·.1) := (addN_mem _ _).2 _ (addN_mem _ _).1
  unfold bldF
  have sub : ∀ (h : List (Str × List Str)) (k n : Str), n ∈ (addN h k).map (·.1) → n ∈ h.map (·.1) ∨ n = k := fun h k n hn => by
    unfold addN at hn
    split at hn
    · exact .inl hn
    · rw [List.map_append] at hn
      exact (List.mem_append.mp hn).imp id fun w => List.mem_singleton.mp w
  refine ⟨by rw [addE_names]; exact n2, fun x y => ?_, fun n hn => ?_⟩
  · rw [addE_outs n2 m1, addN_outs, addN_outs]
  · rw [addE_names] at hn
    rcases sub _ _ _ hn with w | w
    · exact (sub _ _ _ w).imp id .inl
    · exact .inr (.inr w)
theorem bld_ok : ∀ (vs : List (Str × Str × Int)) {g : List (Str × List Str)}, (g.map (·.1)).Nodup → ((vs.foldl bldF g).map (·.1)).Nodup ∧ (∀ x y, y ∈ outsP (vs.foldl bldF g) x ↔ y ∈ outsP g x ∨ ∃ p ∈ vs, p.1 = x ∧ p.2.1 = y) ∧ ∀ n ∈ (vs.foldl bldF g).map (·.1), n ∈ g.map (·.1) ∨ ∃ p ∈ vs, n = p.1 ∨ n = p.2.1
  | [], g, nd => ⟨nd, fun x y => ⟨.inl, fun w => w.elim id fun ⟨_, z, _⟩ => (nomatch z)⟩, fun n hn => .inl hn⟩
  | p :: vs, g, nd => by
    obtain ⟨a1, a2, a3⟩ := bldF_ok p nd
    obtain ⟨b1, b2, b3⟩ := bld_ok vs a1
    refine ⟨b1, fun x y => ?_, fun n hn => ?_⟩
    · show y ∈ outsP (vs.foldl bldF (bldF g p)) x ↔ _
      rw [b2, a2]
      constructor
      · rintro ((w | ⟨rfl, rfl⟩) | ⟨q, hq, e⟩)
        · exact .inl w
        · exact .inr ⟨p, List.mem_cons_self, rfl, rfl⟩
        · exact .inr ⟨q, List.mem_cons_of_mem _ hq, e⟩
      · rintro (w | ⟨q, hq, e1, e2⟩)
        · exact .inl (.inl w)
        · rcases List.mem_cons.mp hq with rfl | hq
          · exact .inl (.inr ⟨e1.symm, e2.symm⟩)
          · exact .inr ⟨q, hq, e1, e2⟩
    · rcases b3 n hn with w | ⟨q, hq, e⟩
      · rcases a3 n w with w | w
        · exact .inl w
        · exact .inr ⟨p, List.mem_cons_self, w⟩
      · exact .inr ⟨q, List.mem_cons_of_mem _ hq, e⟩
theorem bld_edge (vs : List (Str × Str × Int)) (x y : Str) : y ∈ outsP (bld vs) x ↔ ∃ p ∈ vs, p.1 = x ∧ p.2.1 = y := by
  have := (bld_ok vs (g := []) List.nodup_nil).2.1 x y
  exact this.trans ⟨fun w => w.resolve_left fun z => (nomatch z), .inr⟩
theorem bld_nd (vs : List (Str × Str × Int)) : ((bld vs).map (·.1)).Nodup := (bld_ok vs (g := []) List.nodup_nil).1
theorem bld_names (vs : List (Str × Str × Int)) (n : Str) (h : n ∈ (bld vs).map (·.1)) : ∃ p ∈ vs, n = p.1 ∨ n = p.2.1 := ((bld_ok vs (g := []) List.nodup_nil).2.2 n h).resolve_left fun z => (nomatch z)
theorem bld_len {vs : List (Str × Str × Int)} {nm : List Str} (h : ∀ p ∈ vs, p.1 ∈ nm ∧ p.2.1 ∈ nm) : (bld vs).length ≤ nm.length := by
  have := nd_le' (bld_nd vs) (m := nm) fun n hn => by
    obtain ⟨p, hp, e⟩ := bld_names vs n hn
    rcases e with rfl | rfl
    · exact (h p hp).1
    · exact (h p hp).2
  rw [List.length_map] at this
  exact this
theorem srt_uniq : ∀ {a b : List Str}, a.Perm b → a.Pairwise (fun x y => keyL x < keyL y) → b.Pairwise (fun x y => keyL x < keyL y) → a = b
  | [], b, p, _, _ => (List.nil_perm.mp p).symm
  | x :: a, [], p, _, _ => absurd p.length_eq (by simp)
  | x :: a, y :: b, p, ha, hb => by
    obtain ⟨a1, a2⟩ := List.pairwise_cons.mp ha
    obtain ⟨b1, b2⟩ := List.pairwise_cons.mp hb
    have e : x = y := by
      rcases List.mem_cons.mp (p.mem_iff.mp List.mem_cons_self) with e | h1
      · exact e
      rcases List.mem_cons.mp (p.mem_iff.mpr List.mem_cons_self) with e | h2
      · exact e.symm
      exact absurd (List.lt_trans (a1 y h2) (b1 x h1)) (List.lt_irrefl _)
    subst e
    rw [srt_uniq (List.Perm.cons_inv p) a2 b2]
theorem eq_rds {K : PySem.W.Frag} {H : Hp} {n : Nat} {ps : List TD} {j : Nat} (hj : j < (ps.map rd).length) : EqH K H n ((ps.map rd).getD j .non) ((ps.map rd).getD j .non) true := by
  rw [List.length_map] at hj
  rw [List.getD_eq_getElem?_getD, List.getElem?_map, List.getElem?_eq_getElem hj]
  exact .same
theorem cut_onV (xs : List V) : cutV xs (some 1) none = xs.drop 1 := by
  unfold cutV
  have h1 : HT.sIx xs.length 0 (some 1) = min 1 xs.length := HT.sIx_nat _ _ 1
  have h2 : HT.sIx xs.length xs.length none = xs.length := rfl
  rw [h1, h2]
  cases xs with
  | nil => rfl
  | cons x r =>
    rw [show min 1 (x :: r).length = 1 by rw [List.length_cons]; omega, List.drop_one, List.tail_cons, List.take_of_length_le (by rw [List.length_cons]; omega)]
abbrev klt (a b : Str) : Prop := keyL a < keyL b
def lxB : List Str → List Str → Bool
  | [], [] => false
  | [], _ :: _ => true
  | _ :: _, [] => false
  | x :: a, y :: b => if x = y then lxB a b else decide (klt x y)
theorem lx_app (p a b : List Str) : lxB (p ++ a) (p ++ b) = lxB a b := by
  induction p with
  | nil => rfl
  | cons x p ih =>
    show (if x = x then lxB (p ++ a) (p ++ b) else _) = _
    rw [if_pos rfl, ih]
theorem klt_ne {a b : Str} (h : klt a b) : a ≠ b := fun z => by rw [z] at h; exact List.lt_irrefl _ h
theorem lx_head {x y : Str} {a b : List Str} (h : klt x y) : lxB (x :: a) (y :: b) = true := by
  show (if x = y then _ else decide (klt x y)) = true
  rw [if_neg (klt_ne h)]
  exact decide_eq_true h
structure WSt (g : Gr) (st : Str) (rp : List Str) (un : Str → Option (List Str)) : Prop where
  nd : rp.Nodup
  ch : Chf g rp.reverse
  pu : ∀ x ∈ rp, un x ≠ none
  hu : ∀ x l, un x = some l → ∀ c ∈ l, c ∈ g x
  su : ∀ x l, un x = some l → l.Pairwise klt
  j1 : ∀ x l, un x = some l → ∀ y ∈ g x, y ∈ l ∨ (un y ≠ none ∧ y ≠ st)
  j2 : ∀ x, un x ≠ none → x ∈ rp ∨ un x = some []
theorem WSt.back {g : Gr} {st x : Str} {p : List Str} {un : Str → Option (List Str)} (w : WSt g st (x :: p) un) (e : un x = some []) : WSt g st p un := by
  refine ⟨(List.nodup_cons.mp w.nd).2, fun i a b ha hb => w.ch i a b ?_ ?_, fun y hy => w.pu y (List.mem_cons_of_mem _ hy), w.hu, w.su, w.j1, fun y hy => ?_⟩
  · rw [List.reverse_cons, List.getElem?_append_left (List.getElem?_eq_some_iff.mp ha).1]; exact ha
  · rw [List.reverse_cons, List.getElem?_append_left (List.getElem?_eq_some_iff.mp hb).1]; exact hb
  · rcases w.j2 y hy with z | z
    · rcases List.mem_cons.mp z with rfl | z
      · exact .inr e
      · exact .inl z
    · exact .inr z
theorem WSt.old {g : Gr} {st x c : Str} {p l : List Str} {un : Str → Option (List Str)} (w : WSt g st (x :: p) un) (e : un x = some (c :: l)) (n : c ≠ st) (u : un c ≠ none) : WSt g st (x :: p) (stu un x l) := by
  refine ⟨w.nd, w.ch, fun y hy => stu_some (w.pu y hy), fun y l' e' => ?_, fun y l' e' => ?_, fun y l' e' z hz => ?_, fun y hy => ?_⟩
  · by_cases c1 : y = x
    · subst c1
      rw [stu_self] at e'
      cases e'
      exact fun d hd => w.hu y _ e d (List.mem_cons_of_mem _ hd)
    · rw [stu_ne c1] at e'; exact w.hu y l' e'
  · by_cases c1 : y = x
    · subst c1
      rw [stu_self] at e'
      cases e'
      exact (List.pairwise_cons.mp (w.su y _ e)).2
    · rw [stu_ne c1] at e'; exact w.su y l' e'
  · by_cases c1 : y = x
    · subst c1
      rw [stu_self] at e'
      cases e'
      rcases w.j1 y _ e z hz with q | q
      · rcases List.mem_cons.mp q with rfl | q
        · exact .inr ⟨stu_some u, n⟩
        · exact .inl q
      · exact .inr ⟨stu_some q.1, q.2⟩
    · rw [stu_ne c1] at e'
      rcases w.j1 y l' e' z hz with q | q
      · exact .inl q
      · exact .inr ⟨stu_some q.1, q.2⟩
  · by_cases c1 : y = x
    · exact .inl (c1 ▸ List.mem_cons_self)
    · rw [stu_ne c1] at hy ⊢
      exact w.j2 y hy
theorem WSt.new {g : Gr} {st x c : Str} {p l : List Str} {un : Str → Option (List Str)} (w : WSt g st (x :: p) un) (srt : ∀ x, (g x).Pairwise klt) (e : un x = some (c :: l)) (n : c ≠ st) (u : un c = none) : WSt g st (c :: x :: p) (stu (stu un x l) c (g c)) := by
  have hc : c ∈ g x := w.hu x _ e c List.mem_cons_self
  have cn : c ∉ x :: p := fun z => w.pu c z u
  have at' : ∀ y l', stu (stu un x l) c (g c) y = some l' → (y = c ∧ l' = g c) ∨ (y ≠ c ∧ y = x ∧ l' = l) ∨ (y ≠ c ∧ y ≠ x ∧ un y = some l') := fun y l' e' => by
    by_cases c1 : y = c
    · subst c1
      rw [stu_self] at e'
      exact .inl ⟨rfl, (Option.some.inj e').symm⟩
    · rw [stu_ne c1] at e'
      by_cases c2 : y = x
      · subst c2
        rw [stu_self] at e'
        exact .inr (.inl ⟨c1, rfl, (Option.some.inj e').symm⟩)
      · rw [stu_ne c2] at e'; exact .inr (.inr ⟨c1, c2, e'⟩)
  refine ⟨List.nodup_cons.mpr ⟨cn, w.nd⟩, w.ch.snoc hc, fun y hy => ?_, fun y l' e' => ?_, fun y l' e' => ?_, fun y l' e' z hz => ?_, fun y hy => ?_⟩
  · rcases List.mem_cons.mp hy with rfl | hy
    · rw [stu_self]; exact (fun z => nomatch z)
    · exact stu_some (stu_some (w.pu y hy))
  · rcases at' y l' e' with ⟨rfl, rfl⟩ | ⟨_, rfl, rfl⟩ | ⟨_, _, q⟩
    · exact fun d hd => hd
    · exact fun d hd => w.hu y _ e d (List.mem_cons_of_mem _ hd)
    · exact w.hu y l' q
  · rcases at' y l' e' with ⟨rfl, rfl⟩ | ⟨_, rfl, rfl⟩ | ⟨_, _, q⟩
    · exact srt y
    · exact (List.pairwise_cons.mp (w.su y _ e)).2
    · exact w.su y l' q
  · rcases at' y l' e' with ⟨rfl, rfl⟩ | ⟨_, rfl, rfl⟩ | ⟨_, _, q⟩
    · exact .inl hz
    · rcases w.j1 y _ e z hz with q | q
      · rcases List.mem_cons.mp q with rfl | q
        · exact .inr ⟨(by rw [stu_self]; exact (fun z => nomatch z)), n⟩
        · exact .inl q
      · exact .inr ⟨stu_some (stu_some q.1), q.2⟩
    · rcases w.j1 y l' q z hz with q | q
      · exact .inl q
      · exact .inr ⟨stu_some (stu_some q.1), q.2⟩
  · by_cases c0 : y = c
    · exact .inl (c0 ▸ List.mem_cons_self)
    · rw [stu_ne c0] at hy ⊢
      by_cases c1 : y = x
      · exact .inl (c1 ▸ List.mem_cons_of_mem _ List.mem_cons_self)
      · rw [stu_ne c1] at hy ⊢
        rcases w.j2 y hy with z | z
        · exact .inl (List.mem_cons_of_mem _ z)
        · exact .inr z
def nxt (st : Str) : List Str → Str
  | [] => st
  | a :: _ => a
theorem WSt.dead {g : Gr} {st : Str} {rp : List Str} {un : Str → Option (List Str)} (w : WSt g st rp un) : ∀ (t : List Str) (a : Str), (∀ y ∈ a :: t, y ∉ rp) → un a ≠ none → Chf g (a :: t) → (∀ b, (a :: t)[t.length]? = some b → st ∈ g b) → False
  | [], a, nin, ua, _, cl => by
    have ea := (w.j2 a ua).resolve_left (nin a List.mem_cons_self)
    rcases w.j1 a [] ea st (cl a rfl) with q | q
    · cases q
    · exact q.2 rfl
  | b :: t, a, nin, ua, ch, cl => by
    have ea := (w.j2 a ua).resolve_left (nin a List.mem_cons_self)
    rcases w.j1 a [] ea b (ch 0 a b rfl rfl) with q | q
    · cases q
    · exact w.dead t b (fun y hy => nin y (List.mem_cons_of_mem _ hy)) q.1 (fun i c d hc hd => ch (i + 1) c d hc hd) (fun c hc => cl c hc)
theorem Chf.right {g : Gr} {a b : List Str} (h : Chf g (a ++ b)) : Chf g b := fun i x y hx hy => h (a.length + i) x y (by rw [List.getElem?_append_right (by omega), Nat.add_sub_cancel_left]; exact hx) (by rw [Nat.add_assoc, List.getElem?_append_right (by omega), Nat.add_sub_cancel_left]; exact hy)
theorem Chf.step {g : Gr} {a t : List Str} {x : Str} {st : Str} (ok : RingOk g st (a ++ x :: t)) : nxt st t ∈ g x := by
  cases t with
  | nil => exact ok.cl x (by rw [List.length_append, List.getElem?_append_right (by show _ ≤ _ + 1 - 1; omega), show a.length + [x].length - 1 - a.length = 0 by show _ + 1 - 1 - _ = 0; omega]; rfl)
  | cons b t => exact ok.ch.right (a := a) 0 x b rfl rfl
theorem Walk.least {g : Gr} {st : Str} {rp : List Str} {un : Str → Option (List Str)} {r : List Str} (h : Walk g st rp un r) : r ≠ [] → (∀ x, (g x).Pairwise klt) → (∀ x, g x ≠ [] → x = st ∨ klt st x) → WSt g st rp un → rp.reverse[0]? = some st ∨ rp = [] →
    ∀ (c post pre t : List Str) (y : Str), rp = post ++ y :: pre → RingOk g st c → c = (y :: pre).reverse ++ t → (∃ l, un y = some l ∧ nxt st t ∈ l) → (∀ z, post.getLast? = some z → klt z (nxt st t)) → r = c ∨ lxB r c = true := by
  induction h with
  | done => intro _ _ _ _ _ c post pre t y e; exact absurd e (by simp)
  | @back x p un r e _ ih =>
    intro hr srt lo w hst c post pre t y er ok ec hl hz
    cases post with
    | nil =>
      cases er
      obtain ⟨l, e1, e2⟩ := hl
      rw [e] at e1
      cases e1
      cases e2
    | cons x' post =>
      injection er with e1 e2
      subst e1
      refine ih hr srt lo (w.back e) ?_ c post pre t y e2 ok ec hl (fun z hz' => hz z ?_)
      · rcases hst with hst | hst
        · cases p with
          | nil => exact .inr rfl
          | cons b p =>
            rw [List.reverse_cons, List.getElem?_append_left (by rw [List.length_reverse, List.length_cons]; omega)] at hst
            exact .inl hst
        · cases hst
      · cases post with
        | nil => cases hz'
        | cons b post => rw [List.getLast?_cons_cons]; exact hz'
  | @ring x p un l e =>
    intro hr srt lo w hst c post pre t y er ok ec hl hz
    have split : (x :: p).reverse = (y :: pre).reverse ++ post.reverse := by rw [er, List.reverse_append]
    rw [split, ec, lx_app]
    cases hp : post.reverse with
    | nil =>
      cases t with
      | nil => exact .inl rfl
      | cons a t => exact .inr rfl
    | cons z q =>
      have zl : post.getLast? = some z := by rw [← List.head?_reverse, hp]; rfl
      have kz := hz z zl
      have gz : g z ≠ [] := fun gn => by
        have okr : (x :: p).reverse = (y :: pre).reverse ++ z :: q := by rw [split, hp]
        cases q with
        | nil =>
          have zx : x = z := by
            have := congrArg List.getLast? okr
            rw [List.getLast?_reverse, List.getLast?_append] at this
            exact Option.some.inj this
          have := w.hu x _ e st List.mem_cons_self
          rw [zx, gn] at this
          cases this
        | cons b q =>
          have := w.ch
          rw [okr] at this
          have := this.right 0 z b rfl rfl
          rw [gn] at this
          cases this
      have zst : z ≠ st := fun zs => by
        rcases hst with hst | hst
        · have nd : (x :: p).reverse.Nodup := (List.reverse_perm (x :: p)).nodup_iff.mpr w.nd
          rw [split, hp] at nd hst
          have h0 : ((y :: pre).reverse ++ z :: q)[(y :: pre).reverse.length]? = some st := by rw [List.getElem?_append_right (Nat.le_refl _), Nat.sub_self, ← zs]; rfl
          have := (List.getElem?_inj (by rw [List.length_append, List.length_reverse, List.length_cons]; omega) nd).mp (hst.trans h0.symm)
          rw [List.length_reverse, List.length_cons] at this
          omega
        · cases hst
      have sz := (lo z gz).resolve_left zst
      cases t with
      | nil => exact absurd (List.lt_trans kz sz) (List.lt_irrefl _)
      | cons a t => exact .inr (lx_head kz)
  | @old x p un c0 l r e n u _ ih =>
    intro hr srt lo w hst c post pre t y er ok ec hl hz
    refine ih hr srt lo (w.old e n u) hst c post pre t y er ok ec ?_ hz
    obtain ⟨l', e1, e2⟩ := hl
    cases post with
    | nil =>
      cases er
      rw [e] at e1
      cases e1
      refine ⟨l, stu_self, ?_⟩
      rcases List.mem_cons.mp e2 with h0 | h0
      · exfalso
        cases t with
        | nil => exact n h0.symm
        | cons a t =>
          have h0 : a = c0 := h0
          subst h0
          have nd := ok.nd
          rw [ec] at nd
          have ch := ok.ch
          rw [ec] at ch
          refine w.dead t a (fun b hb hm => (List.nodup_append.mp nd).2.2 b (List.mem_reverse.mpr hm) b hb rfl) u ch.right (fun b hb => ok.cl b ?_)
          rw [ec, List.length_append, List.length_cons, List.getElem?_append_right (by omega), show (x :: p).reverse.length + (t.length + 1) - 1 - (x :: p).reverse.length = t.length by omega]
          exact hb
      · exact h0
    | cons x' post =>
      injection er with ex ep
      have ne : y ≠ x := fun z => (List.nodup_cons.mp w.nd).1 (by rw [ep, ← z]; exact List.mem_append_right _ List.mem_cons_self)
      exact ⟨l', by rw [stu_ne ne]; exact e1, e2⟩
  | @new x p un c0 l r e n u _ ih =>
    intro hr srt lo w hst c post pre t y er ok ec hl hz
    have hst' : (c0 :: x :: p).reverse[0]? = some st ∨ c0 :: x :: p = [] := by
      rcases hst with hst | hst
      · left
        rw [List.reverse_cons, List.getElem?_append_left (by rw [List.length_reverse, List.length_cons]; omega)]
        exact hst
      · cases hst
    have go := ih hr srt lo (w.new srt e n u) hst'
    obtain ⟨l', e1, e2⟩ := hl
    cases post with
    | nil =>
      cases er
      rw [e] at e1
      cases e1
      have nx : x ≠ c0 := fun z => w.pu x List.mem_cons_self (by rw [z]; exact u)
      rcases List.mem_cons.mp e2 with h0 | h0
      · cases t with
        | nil => exact absurd h0.symm n
        | cons a t =>
          have h0 : a = c0 := h0
          subst h0
          have ec2 : c = (a :: x :: p).reverse ++ t := by rw [ec, List.reverse_cons (a := a), List.append_assoc]; rfl
          refine go c [] (x :: p) t a rfl ok ec2 ⟨g a, stu_self, ?_⟩ (fun z hz => nomatch hz)
          have ok2 := ok
          rw [ec] at ok2
          exact Chf.step ok2
      · refine go c [c0] p t x rfl ok ec ⟨l, by rw [stu_ne nx]; exact stu_self, h0⟩ (fun z hz' => ?_)
        have hz' : c0 = z := Option.some.inj hz'
        rw [← hz']
        exact (List.pairwise_cons.mp (w.su x _ e)).1 _ h0
    | cons x' post =>
      injection er with ex ep
      have ne : y ≠ x := fun z => (List.nodup_cons.mp w.nd).1 (by rw [ep, ← z]; exact List.mem_append_right _ List.mem_cons_self)
      have nc : y ≠ c0 := fun z => by rw [z, u] at e1; cases e1
      refine go c (c0 :: x' :: post) pre t y (by rw [ex, ep]; rfl) ok ec ⟨l', by rw [stu_ne nc, stu_ne ne]; exact e1, e2⟩ (fun z hz' => hz z ?_)
      rw [List.getLast?_cons_cons] at hz'
      exact hz'
theorem RingOk.cons {g : Gr} {m : Str} {c : List Str} (ok : RingOk g m c) : ∃ t, c = m :: t := by
  cases c with
  | nil => exact absurd ok.hd (fun z => nomatch z)
  | cons a t => exact ⟨t, by rw [Option.some.inj ok.hd]⟩
theorem RF.no_ring {g : Gr} {n : Str} {c : List Str} (h : RF g n []) (ok : RingOk g n c) : False := by
  obtain ⟨t, rfl⟩ := ok.cons
  have last : (n :: t)[(n :: t).length - 1]? = some ((n :: t)[(n :: t).length - 1]'(by rw [List.length_cons]; omega)) := List.getElem?_eq_getElem _
  have cl := ok.cl _ last
  rcases h with ⟨f, _⟩ | ⟨_, b⟩
  · exact f _ cl
  · obtain ⟨T, t1, t2⟩ := b.empty rfl (fun x l e y hy => by
      by_cases c1 : x = n
      · rw [c1, stu_self] at e; cases e; rw [c1] at hy; exact .inl hy
      · rw [stu_ne c1] at e; cases e) (fun x hx => by
      by_cases c1 : x = n
      · exact .inl (by rw [c1]; exact List.mem_cons_self)
      · rw [stu_ne c1] at hx; exact absurd rfl hx)
    have all : ∀ (i : Nat) (a : Str), (n :: t)[i]? = some a → T a := fun i => by
      induction i with
      | zero => intro a ha; cases (show n = a from Option.some.inj ha); exact t1 n (by rw [stu_self]; exact (fun z => nomatch z))
      | succ i ih =>
        intro a ha
        have li := (List.getElem?_eq_some_iff.mp ha).1
        have hi : (n :: t)[i]? = some ((n :: t)[i]'(by omega)) := List.getElem?_eq_getElem (by omega)
        exact (t2 _ (ih _ hi) a (ok.ch i _ a hi ha)).1
    exact (t2 _ (all _ _ last) n cl).2 rfl
theorem RW.least {g : Gr} {ns r : List Str} (h : RW g ns r) : r ≠ [] → (∀ x, (g x).Pairwise klt) → ns.Pairwise klt → (∀ x, g x ≠ [] → x ∈ ns) → ∀ (c : List Str) (m : Str), RingOk g m c → (∀ y ∈ c, y = m ∨ klt m y) → r = c ∨ lxB r c = true := by
  induction h with
  | nil => intro e; exact absurd rfl e
  | @hit g n ns r a b =>
    intro _ srt pw fin c m ok lo
    obtain ⟨p1, p2⟩ := List.pairwise_cons.mp pw
    obtain ⟨t, rfl⟩ := ok.cons
    have gm : nxt m t ∈ g m := Chf.step (a := []) ok
    have mm := fin m (fun z => by rw [z] at gm; cases gm)
    rcases List.mem_cons.mp mm with rfl | mm
    · rcases a with ⟨_, z⟩ | ⟨_, w⟩
      · exact absurd z b
      · refine w.least b srt (fun x hx => ?_) ⟨List.nodup_cons.mpr ⟨(fun z => nomatch z), List.nodup_nil⟩, fun i a c ha hc => ?_, fun x hx => ?_, fun x l e c hc => ?_, fun x l e => ?_, fun x l e y hy => ?_, fun x hx => ?_⟩ (.inl rfl) (m :: t) [] [] t m rfl ok rfl ⟨g m, stu_self, gm⟩ (fun z hz => nomatch hz)
        · exact (List.mem_cons.mp (fin x hx)).imp id (p1 x)
        · have := (List.getElem?_eq_some_iff.mp hc).1
          exact absurd this (by show ¬ i + 1 < 1; omega)
        · rw [List.mem_singleton.mp hx, stu_self]; exact (fun z => nomatch z)
        · by_cases c1 : x = m
          · rw [c1, stu_self] at e; cases e; rw [c1]; exact hc
          · rw [stu_ne c1] at e; cases e
        · by_cases c1 : x = m
          · rw [c1, stu_self] at e; cases e; exact srt m
          · rw [stu_ne c1] at e; cases e
        · by_cases c1 : x = m
          · rw [c1, stu_self] at e; cases e; rw [c1] at hy; exact .inl hy
          · rw [stu_ne c1] at e; cases e
        · by_cases c1 : x = m
          · exact .inl (by rw [c1]; exact List.mem_cons_self)
          · rw [stu_ne c1] at hx; exact absurd rfl hx
    · obtain ⟨r', rfl⟩ := (a.sound.resolve_left b).cons
      exact .inr (lx_head (p1 m mm))
  | @miss g n ns r a _ ih =>
    intro hr srt pw fin c m ok lo
    obtain ⟨p1, p2⟩ := List.pairwise_cons.mp pw
    have gm : g m ≠ [] := fun z => by
      obtain ⟨t, rfl⟩ := ok.cons
      have := Chf.step (a := []) ok
      rw [z] at this; cases this
    have nin : n ∉ c := fun hn => by
      have mn : m = n := by
        rcases List.mem_cons.mp (fin m gm) with e | e
        · exact e
        · rcases lo n hn with z | z
          · exact z.symm
          · exact absurd (List.lt_trans (p1 m e) z) (List.lt_irrefl _)
      rw [mn] at ok
      exact a.no_ring ok
    have keep : ∀ x b, x ∈ c → b ∈ g x → b ∈ lvg g n x := fun x b hx hb => by unfold lvg; rw [if_neg (fun z : x = n => nin (z ▸ hx))]; exact hb
    refine ih hr (fun x => ?_) p2 (fun x hx => ?_) c m ⟨ok.nd, fun i x b hx hb => keep x b (List.mem_of_getElem? hx) (ok.ch i x b hx hb), ok.hd, fun x hx => keep x m (List.mem_of_getElem? hx) (ok.cl x hx)⟩ lo
    · unfold lvg
      split
      · exact List.Pairwise.nil
      · exact srt x
    · unfold lvg at hx
      by_cases k : x = n
      · rw [if_pos k] at hx; exact absurd rfl hx
      · rw [if_neg k] at hx
        exact (List.mem_cons.mp (fin x hx)).resolve_left k
theorem lx_asy : ∀ (a b : List Str), lxB a b = true → lxB b a = true → False
  | [], [], h, _ => nomatch h
  | [], _ :: _, _, h => nomatch h
  | _ :: _, [], h, _ => nomatch h
  | x :: a, y :: b, h1, h2 => by
    by_cases c : x = y
    · subst c
      have h1 : (if x = x then lxB a b else _) = true := h1
      have h2 : (if x = x then lxB b a else _) = true := h2
      rw [if_pos rfl] at h1 h2
      exact lx_asy a b h1 h2
    · have h1 : (if x = y then _ else decide (klt x y)) = true := h1
      have h2 : (if y = x then _ else decide (klt y x)) = true := h2
      rw [if_neg c] at h1
      rw [if_neg fun z => c z.symm] at h2
      exact List.lt_irrefl _ (List.lt_trans (of_decide_eq_true h1) (of_decide_eq_true h2))
theorem addE_eq {g : List (Str × List Str)} {d c : Str} (nd : (g.map (·.1)).Nodup) (hd : d ∈ g.map (·.1)) (x : Str) : outsP (addE g d c) x = if x = d then outsP g x ++ [c] else outsP g x := by
  have nd2 : ((addE g d c).map (·.1)).Nodup := by rw [addE_names]; exact nd
  by_cases m : x ∈ g.map (·.1)
  · obtain ⟨e, he, rfl⟩ := List.mem_map.mp m
    have hm : (if e.1 = d then (e.1, e.2 ++ [c]) else e : Str × List Str) ∈ addE g d c := List.mem_map.mpr ⟨e, he, rfl⟩
    rw [outsP_of nd he]
    by_cases k : e.1 = d
    · rw [if_pos k] at hm ⊢
      exact outsP_of nd2 hm
    · rw [if_neg k] at hm ⊢
      exact outsP_of nd2 hm
  · rw [outsP_not (by rw [addE_names]; exact m), outsP_not m, if_neg (fun w : x = d => m (by rw [w]; exact hd))]
theorem bld_outs : ∀ (vs : List (Str × Str × Int)) {g : List (Str × List Str)}, (g.map (·.1)).Nodup → ∀ x, outsP (vs.foldl bldF g) x = outsP g x ++ (vs.filter fun p => decide (p.1 = x)).map (·.2.1)
  | [], g, _, x => by rw [List.filter_nil, List.map_nil, List.append_nil]; rfl
  | p :: vs, g, nd, x => by
    have n2 := addN_nd p.2.1 (addN_nd p.1 nd)
    have m1 : p.1 ∈ (addN (addN g p.1) p.2.1).map (·.1) := (addN_mem _ _).2 _ (addN_mem _ _).1
    have := bld_outs vs (bldF_ok p nd).1 x
    show outsP (vs.foldl bldF (bldF g p)) x = _
    rw [this]
    unfold bldF
    rw [addE_eq n2 m1, addN_outs, addN_outs, List.filter_cons]
    by_cases c : p.1 = x
    · rw [if_pos c.symm, if_pos (decide_eq_true c), List.map_cons, List.append_assoc]; rfl
    · rw [if_neg fun w : x = p.1 => c w.symm, if_neg (by rw [decide_eq_false c]; exact Bool.false_ne_true)]
theorem bld_srt {ps : List TD} (pw : ps.Pairwise fun a b => lt3 a b = true) (x : Str) : (outsP (bld (vD ps)) x).Pairwise klt := by
  have e := bld_outs (vD ps) (g := []) List.nodup_nil x
  have e2 : outsP (bld (vD ps)) x = ((vD ps).filter fun p => decide (p.1 = x)).map (·.2.1) := e
  rw [e2]
  have p2 : (vD ps).Pairwise fun a b => a.1 = x → b.1 = x → klt a.2.1 b.2.1 := by
    unfold vD
    rw [List.pairwise_map]
    refine pw.imp fun {a b} h ha hb => ?_
    rcases (lt3_iff a b).mp h with ⟨n, _⟩ | ⟨_, _, k⟩
    · exact absurd (ha.trans hb.symm) n
    · exact k
  rw [List.pairwise_map]
  refine (List.Pairwise.and_mem.mp (p2.filter _)).imp fun {a b} h => ?_
  have ha := of_decide_eq_true (List.mem_filter.mp h.1).2
  have hb := of_decide_eq_true (List.mem_filter.mp h.2.1).2
  exact h.2.2 ha hb
abbrev T3 := Str × Str × Int
def RgV (L : List T3) (c : List Str) : Prop := ∃ m, RingOk (outsP (bld L)) m c ∧ ∀ y ∈ c, y = m ∨ klt m y
def NoR (L : List T3) : Prop := ∀ c, ¬ RgV L c
def LR (L : List T3) (r : List Str) : Prop := RgV L r ∧ ∀ c, RgV L c → r = c ∨ lxB r c = true
def prs (r : List Str) : List (Str × Str) := r.zip (r.drop 1 ++ r.take 1)
def onr (r : List Str) (p : T3) : Bool := decide ((p.1, p.2.1) ∈ prs r)
def lowr (r : List Str) (m : Int) (p : T3) : T3 := if onr r p = true then (p.1, p.2.1, p.2.2 - m) else p
def posT (p : T3) : Bool := decide (0 < p.2.2)
structure IsM (L : List T3) (r : List Str) (m : Int) : Prop where
  le : ∀ p ∈ L, onr r p = true → m ≤ p.2.2
  ex : ∃ p ∈ L, onr r p = true ∧ p.2.2 = m
def Cut (L : List T3) (r : List Str) (L1 : List T3) : Prop := ∃ m, IsM L r m ∧ L1 = (L.map (lowr r m)).filter posT
inductive Wk : List T3 → List T3 → Prop
  | stop {L} : NoR L → Wk L L
  | step {L r L1 L2} : LR L r → Cut L r L1 → Wk L1 L2 → Wk L L2
theorem LR.uniq {L : List T3} {r r' : List Str} (h : LR L r) (h' : LR L r') : r = r' := by
  rcases h.2 r' h'.1 with e | e
  · exact e
  rcases h'.2 r h.1 with e' | e'
  · exact e'.symm
  · exact (lx_asy _ _ e e').elim
theorem IsM.uniq {L : List T3} {r : List Str} {m n : Int} (h : IsM L r m) (h' : IsM L r n) : m = n := by
  obtain ⟨p, hp, o, rfl⟩ := h.ex
  obtain ⟨q, hq, o', rfl⟩ := h'.ex
  have := h.le q hq o'
  have := h'.le p hp o
  omega
theorem Wk.det {L L2 : List T3} (h : Wk L L2) : ∀ {L3}, Wk L L3 → L2 = L3 := by
  induction h with
  | stop n =>
    intro L3 h'
    cases h' with
    | stop _ => rfl
    | step lr _ _ => exact (n _ lr.1).elim
  | step lr ct _ ih =>
    intro L3 h'
    cases h' with
    | stop n => exact (n _ lr.1).elim
    | step lr' ct' h2 =>
      cases lr.uniq lr'
      obtain ⟨m, hm, rfl⟩ := ct
      obtain ⟨n, hn, rfl⟩ := ct'
      cases hm.uniq hn
      exact ih h2
theorem prs_len (r : List Str) : (prs r).length = r.length := by
  unfold prs
  rw [List.length_zip, List.length_append, List.length_drop, List.length_take]
  omega
theorem prs_fst (r : List Str) : (prs r).map (·.1) = r := by
  unfold prs
  exact List.map_fst_zip (by rw [List.length_append, List.length_drop, List.length_take]; omega)
theorem rot_get {r : List Str} {i : Nat} (h : i < r.length) : (r.drop 1 ++ r.take 1)[i]? = r[(i + 1) % r.length]? := by
  by_cases c : i + 1 < r.length
  · rw [List.getElem?_append_left (by rw [List.length_drop]; omega), List.getElem?_drop, Nat.mod_eq_of_lt c, Nat.add_comm]
  · have e : i + 1 = r.length := by omega
    rw [List.getElem?_append_right (by rw [List.length_drop]; omega), List.length_drop, e, Nat.mod_self, show i - (r.length - 1) = 0 by omega, List.getElem?_take_of_lt (by omega)]
theorem prs_get {r : List Str} {i : Nat} {a b : Str} (h : (prs r)[i]? = some (a, b)) : r[i]? = some a ∧ r[(i + 1) % r.length]? = some b := by
  obtain ⟨h1, h2⟩ := List.getElem?_zip_eq_some.mp h
  have li := (List.getElem?_eq_some_iff.mp h1).1
  rw [rot_get li] at h2
  exact ⟨h1, h2⟩
theorem prs_nd {r : List Str} (h : r.Nodup) : (prs r).Nodup := by
  have h2 : ((prs r).map (·.1)).Nodup := by rw [prs_fst]; exact h
  exact (List.pairwise_map.mp h2).imp fun {a b} z e => z (by rw [e])
theorem ring_edge {g : Gr} {m : Str} {r : List Str} (ok : RingOk g m r) {a b : Str} (h : (a, b) ∈ prs r) : b ∈ g a := by
  obtain ⟨i, hi⟩ := List.mem_iff_getElem?.mp h
  obtain ⟨h1, h2⟩ := prs_get hi
  have li := (List.getElem?_eq_some_iff.mp h1).1
  by_cases c : i + 1 < r.length
  · rw [Nat.mod_eq_of_lt c] at h2
    exact ok.ch i a b h1 h2
  · have e : i + 1 = r.length := by omega
    rw [e, Nat.mod_self, ok.hd] at h2
    cases h2
    exact ok.cl a (by rw [show r.length - 1 = i by omega]; exact h1)
theorem RingOk.mono {g g' : Gr} {m : Str} {c : List Str} (ok : RingOk g m c) (k : ∀ x ∈ c, ∀ y, y ∈ g x → y ∈ g' x) : RingOk g' m c :=
  ⟨ok.nd, fun i x b hx hb => k x (List.mem_of_getElem? hx) b (ok.ch i x b hx hb), ok.hd, fun x hx => k x (List.mem_of_getElem? hx) m (ok.cl x hx)⟩
theorem acy_noring {g : Gr} {m : Str} {c : List Str} (a : Acy g) (ok : RingOk g m c) : False := by
  obtain ⟨rk, hrk⟩ := a
  have up : ∀ (i : Nat) (x : Str), c[i]? = some x → rk m ≤ rk x := fun i => by
    induction i with
    | zero => intro x hx; rw [ok.hd] at hx; cases hx; exact Nat.le_refl _
    | succ i ih =>
      intro x hx
      have li := (List.getElem?_eq_some_iff.mp hx).1
      have hi : c[i]? = some (c[i]'(by omega)) := List.getElem?_eq_getElem (by omega)
      exact Nat.le_trans (ih _ hi) (Nat.le_of_lt (hrk _ _ (ok.ch i _ x hi hx)))
  have l0 : 0 < c.length := (List.getElem?_eq_some_iff.mp ok.hd).1
  have hl : c[c.length - 1]? = some (c[c.length - 1]'(by omega)) := List.getElem?_eq_getElem (by omega)
  have := hrk _ _ (ok.cl _ hl)
  have := up _ _ hl
  omega
def S3 (a b : T3) : Prop := (a.1 ≠ b.1 ∧ klt a.1 b.1) ∨ (a.1 = b.1 ∧ a.2.1 ≠ b.2.1 ∧ klt a.2.1 b.2.1)
theorem s3_of {ps : List TD} (pw : ps.Pairwise fun a b => lt3 a b = true) : (vD ps).Pairwise S3 := by
  unfold vD
  rw [List.pairwise_map]
  exact pw.imp fun {a b} h => (lt3_iff a b).mp h
theorem s3_srt {L : List T3} (h : L.Pairwise S3) (x : Str) : (outsP (bld L) x).Pairwise klt := by
  have e : vD (L.map fun v => ((0 : Addr), v)) = L := by unfold vD; rw [List.map_map]; exact List.map_id _
  have := bld_srt (ps := L.map fun v => ((0 : Addr), v)) (by rw [List.pairwise_map]; exact h.imp fun {a b} z => (lt3_iff _ _).mpr z) x
  rw [e] at this
  exact this
theorem s3_ne {a b : T3} (h : S3 a b) : (a.1, a.2.1) ≠ (b.1, b.2.1) := fun z => by
  injection z with z1 z2
  rcases h with ⟨n, _⟩ | ⟨_, n, _⟩
  · exact n z1
  · exact n z2
theorem s3_low {L : List T3} {r : List Str} {m : Int} (h : L.Pairwise S3) : ((L.map (lowr r m)).filter posT).Pairwise S3 := by
  refine List.Pairwise.filter _ ?_
  rw [List.pairwise_map]
  refine h.imp fun {a b} z => ?_
  have e : ∀ p : T3, (lowr r m p).1 = p.1 ∧ (lowr r m p).2.1 = p.2.1 := fun p => by unfold lowr; split <;> exact ⟨rfl, rfl⟩
  unfold S3
  rw [(e a).1, (e a).2, (e b).1, (e b).2]
  exact z
theorem low_fst (r : List Str) (m : Int) (p : T3) : (lowr r m p).1 = p.1 ∧ (lowr r m p).2.1 = p.2.1 := by unfold lowr; split <;> exact ⟨rfl, rfl⟩
theorem on_mem {L : List T3} {r : List Str} (h : RgV L r) {a b : Str} (hm : (a, b) ∈ prs r) : ∃ p ∈ L, p.1 = a ∧ p.2.1 = b := by
  obtain ⟨m, ok, _⟩ := h
  exact (bld_edge L a b).mp (ring_edge ok hm)
def cur (vs : List T3) (A : Str → Str → Int) : List T3 := (vs.map fun p => (p.1, p.2.1, A p.1 p.2.1)).filter posT
def dA (vs : List T3) (A : Str → Str → Int) : List (List Key × V) := vs.map fun p => (k2 p.1 p.2.1, V.int (A p.1 p.2.1))
theorem k2_inj {a b c d : Str} (h : k2 a b = k2 c d) : a = c ∧ b = d := by
  unfold k2 at h
  injection h with h1 h2
  injection h2 with h2 _
  exact ⟨Sum.inr.inj h1, Sum.inr.inj h2⟩
theorem dA_val {A : Str → Str → Int} {d c : Str} : ∀ {vs : List T3}, (∃ p ∈ vs, p.1 = d ∧ p.2.1 = c) → valV (dA vs A) (k2 d c) = some (.int (A d c))
  | [], ⟨_, h, _⟩ => nomatch h
  | q :: vs, ⟨p, hp, e1, e2⟩ => by
    show valV ((k2 q.1 q.2.1, V.int (A q.1 q.2.1)) :: dA vs A) (k2 d c) = _
    by_cases h : q.1 = d ∧ q.2.1 = c
    · rw [h.1, h.2]; exact valV_pos rfl
    · rw [valV_neg fun z => h (k2_inj z)]
      refine dA_val ⟨p, (List.mem_cons.mp hp).resolve_left fun e => h (by rw [← e]; exact ⟨e1, e2⟩), e1, e2⟩
theorem dA_put {A : Str → Str → Int} {d c : Str} {v : Int} {vs : List T3} (h : ∃ p ∈ vs, p.1 = d ∧ p.2.1 = c) : putK (dA vs A) (k2 d c) (.int v) = dA vs (fun x y => if x = d ∧ y = c then v else A x y) := by
  have hv : (dA vs A).any (fun q => decide (q.1 = k2 d c)) = true := by
    obtain ⟨p, hp, e1, e2⟩ := h
    exact List.any_eq_true.mpr ⟨_, List.mem_map.mpr ⟨p, hp, rfl⟩, decide_eq_true (by rw [e1, e2])⟩
  unfold putK
  rw [if_pos hv]
  unfold dA
  rw [List.map_map]
  refine List.map_congr_left fun p _ => ?_
  show (if k2 p.1 p.2.1 = k2 d c then (k2 p.1 p.2.1, V.int v) else (k2 p.1 p.2.1, V.int (A p.1 p.2.1))) = (k2 p.1 p.2.1, V.int (if p.1 = d ∧ p.2.1 = c then v else A p.1 p.2.1))
  by_cases q : p.1 = d ∧ p.2.1 = c
  · rw [if_pos (by rw [q.1, q.2]), if_pos q]
  · rw [if_neg fun z => q (k2_inj z), if_neg q]
theorem cur_ed {vs : List T3} {A : Str → Str → Int} {x y : Str} : (∃ p ∈ cur vs A, p.1 = x ∧ p.2.1 = y) ↔ (∃ p ∈ vs, p.1 = x ∧ p.2.1 = y) ∧ 0 < A x y := by
  unfold cur
  constructor
  · rintro ⟨p, hp, rfl, rfl⟩
    obtain ⟨h1, h2⟩ := List.mem_filter.mp hp
    obtain ⟨q, hq, rfl⟩ := List.mem_map.mp h1
    exact ⟨⟨q, hq, rfl, rfl⟩, of_decide_eq_true h2⟩
  · rintro ⟨⟨p, hp, rfl, rfl⟩, h⟩
    exact ⟨(p.1, p.2.1, A p.1 p.2.1), List.mem_filter.mpr ⟨List.mem_map.mpr ⟨p, hp, rfl⟩, decide_eq_true h⟩, rfl, rfl⟩
structure RS (vs : List T3) (ms : List Str) (i : Nat) (A : Str → Str → Int) (g : Gr) : Prop where
  ed : ∀ x y, y ∈ g x ↔ x ∉ ms.take i ∧ ∃ p ∈ cur vs A, p.1 = x ∧ p.2.1 = y
  sr : ∀ x, (g x).Pairwise klt
  no : ∀ c m, RingOk (outsP (bld (cur vs A))) m c → (∀ y ∈ c, y = m ∨ klt m y) → m ∉ ms.take i
  acc : ∀ L2, Wk (cur vs A) L2 → Wk vs L2
  nn : ∀ p ∈ vs, 0 ≤ A p.1 p.2.1
section
variable {vs : List T3} {ms : List Str} {i : Nat} {A : Str → Str → Int} {g : Gr}
theorem RS.inms (h : RS vs ms i A g) (mem : ∀ p ∈ vs, p.1 ∈ ms ∧ p.2.1 ∈ ms) {x y : Str} (e : y ∈ outsP (bld (cur vs A)) x) : x ∈ ms := by
  obtain ⟨⟨p, hp, rfl, _⟩, _⟩ := cur_ed.mp ((bld_edge _ _ _).mp e)
  exact (mem p hp).1
theorem RS.ringG (h : RS vs ms i A g) (mem : ∀ p ∈ vs, p.1 ∈ ms ∧ p.2.1 ∈ ms) (pw : ms.Pairwise klt) {c : List Str} {m : Str} (ok : RingOk (outsP (bld (cur vs A))) m c) (lo : ∀ y ∈ c, y = m ∨ klt m y) : RingOk g m c := by
  have nm := h.no c m ok lo
  have mms : m ∈ ms := by
    obtain ⟨t, rfl⟩ := ok.cons
    exact h.inms mem (Chf.step (a := []) ok)
  have nin : ∀ x ∈ c, x ∉ ms.take i := fun x hx hm => by
    rcases lo x hx with rfl | k
    · exact nm hm
    · have : m ∈ ms.drop i := by
        have := List.take_append_drop i ms
        rw [← this] at mms
        exact (List.mem_append.mp mms).resolve_left nm
      have pw2 := pw
      rw [← List.take_append_drop i ms] at pw2
      exact absurd (List.lt_trans k ((List.pairwise_append.mp pw2).2.2 x hm m this)) (List.lt_irrefl _)
  exact ok.mono fun x hx y hy => (h.ed x y).mpr ⟨nin x hx, (bld_edge _ _ _).mp hy⟩
theorem RS.fin (h : RS vs ms i A g) (mem : ∀ p ∈ vs, p.1 ∈ ms ∧ p.2.1 ∈ ms) : ∀ x, g x ≠ [] → x ∈ ms.drop i := fun x hx => by
  obtain ⟨y, hy⟩ := List.exists_mem_of_ne_nil _ hx
  obtain ⟨n, p, hp, e1, e2⟩ := (h.ed x y).mp hy
  obtain ⟨⟨q, hq, f1, _⟩, _⟩ := cur_ed.mp ⟨p, hp, e1, e2⟩
  have := (mem q hq).1
  rw [f1, ← List.take_append_drop i ms] at this
  exact (List.mem_append.mp this).resolve_left n
theorem RS.lr (h : RS vs ms i A g) (mem : ∀ p ∈ vs, p.1 ∈ ms ∧ p.2.1 ∈ ms) (pw : ms.Pairwise klt) {st : Str} (hst : ms[i]? = some st) {r : List Str} (rf : RF g st r) (ne : r ≠ []) : LR (cur vs A) r := by
  have li := (List.getElem?_eq_some_iff.mp hst).1
  have ed : ms.drop i = st :: ms.drop (i + 1) := by
    rw [List.drop_eq_getElem_cons li]
    have := (List.getElem?_eq_some_iff.mp hst).2
    rw [this]
  have rw1 : RW g (ms.drop i) r := by rw [ed]; exact .hit rf ne
  have pd : (ms.drop i).Pairwise klt := pw.sublist (List.drop_sublist _ _)
  obtain ⟨n1, ns1, su, mem1, ok1⟩ := rw1.ring ne (h.fin mem)
  refine ⟨⟨n1, ok1.mono fun x _ y hy => (bld_edge _ _ _).mpr ((h.ed x y).mp hy).2, fun y hy => (List.mem_cons.mp (mem1 y hy)).imp id ((List.pairwise_cons.mp (List.Pairwise.sublist su.sublist pd)).1 y)⟩, fun c ⟨m, ok, lo⟩ => ?_⟩
  exact rw1.least ne h.sr pd (h.fin mem) c m (h.ringG mem pw ok lo) lo
theorem RS.next (h : RS vs ms i A g) (mem : ∀ p ∈ vs, p.1 ∈ ms ∧ p.2.1 ∈ ms) (pw : ms.Pairwise klt) {st : Str} (hst : ms[i]? = some st) (rf : RF g st []) : RS vs ms (i + 1) A (lvg g st) := by
  have et : ms.take (i + 1) = ms.take i ++ [st] := by rw [List.take_add_one, hst]; rfl
  refine ⟨fun x y => ?_, fun x => ?_, fun c m ok lo hm => ?_, h.acc, h.nn⟩
  · unfold lvg
    rw [et]
    by_cases e : x = st
    · rw [if_pos e]
      exact ⟨(fun z => nomatch z), fun z => absurd (List.mem_append_right _ (by rw [e]; exact List.mem_cons_self)) z.1⟩
    · rw [if_neg e, h.ed]
      exact ⟨fun z => ⟨fun w => (List.mem_append.mp w).elim z.1 fun w => e (List.mem_singleton.mp w), z.2⟩, fun z => ⟨fun w => z.1 (List.mem_append_left _ w), z.2⟩⟩
  · unfold lvg
    split
    · exact List.Pairwise.nil
    · exact h.sr x
  · rw [et] at hm
    rcases List.mem_append.mp hm with hm | hm
    · exact h.no c m ok lo hm
    · have := List.mem_singleton.mp hm
      subst this
      exact rf.no_ring (h.ringG mem pw ok lo)
theorem RS.done (h : RS vs ms ms.length A g) (mem : ∀ p ∈ vs, p.1 ∈ ms ∧ p.2.1 ∈ ms) : Wk vs (cur vs A) := by
  refine h.acc _ (.stop fun c ⟨m, ok, lo⟩ => h.no c m ok lo ?_)
  rw [List.take_length]
  obtain ⟨t, rfl⟩ := ok.cons
  exact h.inms mem (Chf.step (a := []) ok)
def lowA (r : List Str) (m : Int) (A : Str → Str → Int) (l : List (Str × Str)) : Str → Str → Int := fun x y => if (x, y) ∈ l then A x y - m else A x y
theorem cur_low (nn : ∀ p ∈ vs, 0 ≤ A p.1 p.2.1) {r : List Str} {m : Int} (on : ∀ p ∈ vs, (p.1, p.2.1) ∈ prs r → 0 < A p.1 p.2.1) : cur vs (lowA r m A (prs r)) = ((cur vs A).map (lowr r m)).filter posT := by
  induction vs with
  | nil => rfl
  | cons p vs ih =>
    have ih := ih (fun q hq => nn q (List.mem_cons_of_mem _ hq)) fun q hq => on q (List.mem_cons_of_mem _ hq)
    have n0 := nn p List.mem_cons_self
    have o0 := on p List.mem_cons_self
    unfold cur at ih ⊢
    rw [List.map_cons, List.filter_cons, List.map_cons, List.filter_cons]
    have e1 : posT (p.1, p.2.1, A p.1 p.2.1) = decide (0 < A p.1 p.2.1) := rfl
    have e2 : posT (p.1, p.2.1, lowA r m A (prs r) p.1 p.2.1) = decide (0 < lowA r m A (prs r) p.1 p.2.1) := rfl
    have e3 : lowr r m (p.1, p.2.1, A p.1 p.2.1) = (p.1, p.2.1, lowA r m A (prs r) p.1 p.2.1) := by
      unfold lowr lowA onr
      by_cases c : (p.1, p.2.1) ∈ prs r
      · rw [if_pos (decide_eq_true c), if_pos c]
      · rw [if_neg (by rw [decide_eq_false c]; exact Bool.false_ne_true), if_neg c]
    rw [e1, e2]
    by_cases c : 0 < A p.1 p.2.1
    · rw [if_pos (decide_eq_true c), List.map_cons, e3, List.filter_cons, e2]
      split <;> rw [ih]
    · have this : lowA r m A (prs r) p.1 p.2.1 = A p.1 p.2.1 := by unfold lowA; rw [if_neg fun z => c (o0 z)]
      rw [this, decide_eq_false c, if_neg Bool.false_ne_true, if_neg Bool.false_ne_true, ih]
theorem RS.cut (h : RS vs ms i A g) (mem : ∀ p ∈ vs, p.1 ∈ ms ∧ p.2.1 ∈ ms) (pw : ms.Pairwise klt) {st : Str} (hst : ms[i]? = some st) {r : List Str} (rf : RF g st r) (ne : r ≠ []) {m : Int} (hm : IsM (cur vs A) r m) {g' : Gr}
    (hg : ∀ x y, y ∈ g' x ↔ y ∈ g x ∧ ¬ ((x, y) ∈ prs r ∧ A x y = m)) (hs : ∀ x, (g' x).Pairwise klt) : RS vs ms i (lowA r m A (prs r)) g' ∧ (cur vs (lowA r m A (prs r))).length < (cur vs A).length := by
  have lr := h.lr mem pw hst rf ne
  have on : ∀ a b, (a, b) ∈ prs r → (∃ p ∈ vs, p.1 = a ∧ p.2.1 = b) ∧ 0 < A a b := fun a b hm => cur_ed.mp (on_mem lr.1 hm)
  have onv : ∀ a b, (a, b) ∈ prs r → m ≤ A a b := fun a b ho => by
    obtain ⟨⟨p, hp, rfl, rfl⟩, pos⟩ := on a b ho
    exact hm.le (p.1, p.2.1, A p.1 p.2.1) (List.mem_filter.mpr ⟨List.mem_map.mpr ⟨p, hp, rfl⟩, decide_eq_true pos⟩) (decide_eq_true ho)
  have ec := cur_low (vs := vs) (A := A) (r := r) (m := m) h.nn fun p _ ho => (on _ _ ho).2
  have mp : 0 < m := by
    obtain ⟨p, hp, _, rfl⟩ := hm.ex
    exact of_decide_eq_true (List.mem_filter.mp hp).2
  have lp : ∀ x y, 0 < lowA r m A (prs r) x y ↔ 0 < A x y ∧ ¬ ((x, y) ∈ prs r ∧ A x y = m) := fun x y => by
    unfold lowA
    by_cases c : (x, y) ∈ prs r
    · rw [if_pos c]
      have := onv x y c
      constructor
      · intro z; exact ⟨by omega, fun w => by omega⟩
      · intro z
        have : ¬ A x y = m := fun w => z.2 ⟨c, w⟩
        omega
    · rw [if_neg c]
      exact ⟨fun z => ⟨z, fun w => c w.1⟩, fun z => z.1⟩
  refine ⟨⟨fun x y => ?_, hs, fun c m' ok lo => ?_, fun L2 w => ?_, fun p hp => ?_⟩, ?_⟩
  · rw [hg, h.ed, cur_ed, cur_ed, lp]
    exact ⟨fun z => ⟨z.1.1, z.1.2.1, z.1.2.2, z.2⟩, fun z => ⟨⟨z.1, z.2.1, z.2.2.1⟩, z.2.2.2⟩⟩
  · refine h.no c m' (ok.mono fun x _ y hy => ?_) lo
    obtain ⟨a1, a2⟩ := cur_ed.mp ((bld_edge _ _ _).mp hy)
    exact (bld_edge _ _ _).mpr (cur_ed.mpr ⟨a1, ((lp x y).mp a2).1⟩)
  · exact h.acc L2 (.step lr ⟨m, hm, ec⟩ w)
  · unfold lowA
    by_cases c : (p.1, p.2.1) ∈ prs r
    · rw [if_pos c]; have := onv _ _ c; omega
    · rw [if_neg c]; exact h.nn p hp
  · rw [ec]
    obtain ⟨p, hp, o, e⟩ := hm.ex
    have l1 : ((cur vs A).map (lowr r m)).length = (cur vs A).length := List.length_map _
    rw [← l1]
    refine List.length_filter_lt_length_iff_exists.mpr ⟨lowr r m p, List.mem_map.mpr ⟨p, hp, rfl⟩, fun z => ?_⟩
    have z := of_decide_eq_true z
    unfold lowr at z
    rw [if_pos o] at z
    have z : 0 < p.2.2 - m := z
    omega
end
def A0 (vs : List T3) (x y : Str) : Int := ((vs.find? fun p => decide (p.1 = x ∧ p.2.1 = y)).map (·.2.2)).getD 0
theorem A0_of : ∀ {vs : List T3}, vs.Pairwise S3 → ∀ {p : T3}, p ∈ vs → A0 vs p.1 p.2.1 = p.2.2
  | [], _, _, h => nomatch h
  | q :: vs, pw, p, h => by
    obtain ⟨p1, p2⟩ := List.pairwise_cons.mp pw
    unfold A0
    rw [List.find?_cons]
    rcases List.mem_cons.mp h with rfl | h
    · rw [decide_eq_true ⟨rfl, rfl⟩]; rfl
    · rw [decide_eq_false fun z : q.1 = p.1 ∧ q.2.1 = p.2.1 => s3_ne (p1 p h) (by rw [z.1, z.2])]
      exact A0_of p2 h
theorem cur0 {vs : List T3} (pw : vs.Pairwise S3) (ps : ∀ p ∈ vs, 0 < p.2.2) : cur vs (A0 vs) = vs := by
  unfold cur
  have e : vs.map (fun p => (p.1, p.2.1, A0 vs p.1 p.2.1)) = vs := by
    have : vs.map (fun p => (p.1, p.2.1, A0 vs p.1 p.2.1)) = vs.map id := List.map_congr_left fun p hp => by rw [A0_of pw hp]; rfl
    rw [this, List.map_id]
  rw [e]
  exact List.filter_eq_self.mpr fun p hp => decide_eq_true (ps p hp)
theorem RS.start {vs : List T3} {ms : List Str} (pw : vs.Pairwise S3) (ps : ∀ p ∈ vs, 0 < p.2.2) {g : Gr} (hg : g = outsP (bld vs)) : RS vs ms 0 (A0 vs) g := by
  subst hg
  refine ⟨fun x y => ?_, s3_srt pw, fun c m _ _ z => (nomatch z), fun L2 w => ?_, fun p hp => ?_⟩
  · rw [cur0 pw ps, bld_edge]
    exact ⟨fun z => ⟨(fun w => nomatch w), z⟩, fun z => z.2⟩
  · rw [cur0 pw ps] at w; exact w
  · rw [A0_of pw hp]; have := ps p hp; omega
theorem cnt_erase {l : List Str} {j : Nat} {c : Str} (h : l[j]? = some c) (z : Str) : ((l.eraseIdx j).count z : Int) = (l.count z : Int) - if z = c then 1 else 0 := by
  obtain ⟨lt, e⟩ := List.getElem?_eq_some_iff.mp h
  rw [List.eraseIdx_eq_take_drop_succ]
  have h2 : l.count z = (l.take j ++ l[j] :: l.drop (j + 1)).count z := by rw [← List.drop_eq_getElem_cons lt, List.take_append_drop]
  rw [h2, List.count_append, List.count_append, List.count_cons, e]
  by_cases q : z = c
  · rw [if_pos q, if_pos (by rw [q]; exact beq_self_eq_true _)]; omega
  · rw [if_neg q, if_neg (by intro w; exact q (eq_of_beq w).symm)]; omega
theorem Ways.rem {C : Addr} {H : Hp} {x dc dO : Addr} {gs : List GE} {e : GE} {c : Str} {j : Nat} (w : Ways C H x dc dO gs) (he : e ∈ gs) (hj : e.2.2[j]? = some c) :
    Ways C (upd (upd H e.2.1 (.lst ((e.2.2.eraseIdx j).map V.str))) dO (.dK (kvO gs fun z => if z = c then indeg gs c - 1 else indeg gs z))) x dc dO (repL gs e.1 e.2.1 (e.2.2.eraseIdx j)) := by
  obtain ⟨dx, hx⟩ := w.ins
  obtain ⟨d1, d2, d3⟩ := w.xd
  have de := d3 e he
  refine ⟨⟨dx, upd_oth (upd_oth hx de.1.symm) d2⟩, ?_, ?_, w.ne, fun f hf => ?_, by rw [repL_names]; exact w.nd, by rw [repL_addr w.nd he]; exact w.ad, fun f hf y hy => ?_, ⟨by unfold repL; rw [List.length_map]; exact w.ln.1, fun f hf => ?_⟩⟩
  · rw [repL_kvC w.nd he]
    exact upd_oth (upd_oth w.cr de.2.1.symm) w.ne
  · rw [upd_same, kvO_names (repL_names gs e.1 e.2.1 (e.2.2.eraseIdx j))]
    have : (fun z => if z = c then indeg gs c - 1 else indeg gs z) = indeg (repL gs e.1 e.2.1 (e.2.2.eraseIdx j)) := funext fun z => by
      rw [indeg_repL w.nd he, cnt_erase hj]
      by_cases d : z = c
      · rw [if_pos d, if_pos d, d]; omega
      · rw [if_neg d, if_neg d]; omega
    rw [this]
  · rcases mem_repL hf with ⟨hf, ne⟩ | ⟨g, hg, ge, rfl⟩
    · exact upd_oth (upd_oth (w.ls f hf) (ad_ne w.ad he hf ne)) (d3 f hf).2.2
    · exact upd_oth upd_same de.2.2
  · rw [repL_names]
    rcases mem_repL hf with ⟨hf, _⟩ | ⟨g, hg, ge, rfl⟩
    · exact w.cl f hf y hy
    · exact w.cl e he y (List.mem_of_mem_eraseIdx hy)
  · rcases mem_repL hf with ⟨hf, _⟩ | ⟨g, hg, ge, rfl⟩
    · exact w.ln.2 f hf
    · exact Nat.le_trans (List.length_eraseIdx_le _ _) (w.ln.2 e he)
theorem off_mem {l : List Str} (srt : l.Pairwise klt) {j : Nat} {c y : Str} (h : l[j]? = some c) : y ∈ l.eraseIdx j ↔ y ∈ l ∧ y ≠ c := by
  obtain ⟨lt, e⟩ := List.getElem?_eq_some_iff.mp h
  have sp : l = l.take j ++ c :: l.drop (j + 1) := by rw [← e, ← List.drop_eq_getElem_cons lt, List.take_append_drop]
  rw [List.eraseIdx_eq_take_drop_succ]
  have s2 := srt
  rw [sp] at s2
  obtain ⟨_, q2, q3⟩ := List.pairwise_append.mp s2
  obtain ⟨q4, _⟩ := List.pairwise_cons.mp q2
  constructor
  · intro hy
    rcases List.mem_append.mp hy with hy | hy
    · exact ⟨List.mem_of_mem_take hy, fun z => klt_ne (q3 y hy c List.mem_cons_self) z⟩
    · exact ⟨List.mem_of_mem_drop hy, fun z => klt_ne (q4 y hy) z.symm⟩
  · rintro ⟨hy, ne⟩
    rw [sp] at hy
    rcases List.mem_append.mp hy with hy | hy
    · exact List.mem_append_left _ hy
    · exact List.mem_append_right _ ((List.mem_cons.mp hy).resolve_left ne)
theorem off_first {l : List Str} (srt : l.Pairwise klt) {j : Nat} {c : Str} (h : l[j]? = some c) : ∀ i z, i < j → l[i]? = some z → z ≠ c := fun i z hij hz e => by
  have nd : l.Nodup := srt.imp fun {a b} k => klt_ne k
  have := (List.getElem?_inj (List.getElem?_eq_some_iff.mp h).1 nd).mp (h.trans (by rw [← e]; exact hz.symm))
  omega
theorem pz {H : Hp} : ∀ {l : List (Str × Str)} {ts : List Addr}, Paired (fun t (p : V × V) => H t = some (.tup [p.1, p.2])) ts (l.map fun p => (V.str p.1, V.str p.2)) → ∃ tz : List (Addr × Str × Str), ts = tz.map (·.1) ∧ tz.map (·.2) = l ∧ ∀ e ∈ tz, H e.1 = some (.tup [.str e.2.1, .str e.2.2])
  | [], _, h => by cases h; exact ⟨[], rfl, rfl, fun e he => (nomatch he)⟩
  | p :: l, _, h => by
    cases h with
    | @cons t _ ts _ hp ht =>
      obtain ⟨tz, e1, e2, e3⟩ := pz ht
      refine ⟨(t, p) :: tz, by rw [e1]; rfl, by rw [List.map_cons, e2], fun e he => ?_⟩
      rcases List.mem_cons.mp he with rfl | he
      · exact hp
      · exact e3 e he
theorem zipV (l m : List Str) : (l.map V.str).zip (m.map V.str) = (l.zip m).map fun p => (V.str p.1, V.str p.2) := by
  induction l generalizing m with
  | nil => rfl
  | cons a l ih =>
    cases m with
    | nil => rfl
    | cons b m =>
      show (V.str a, V.str b) :: (l.map V.str).zip (m.map V.str) = _
      rw [ih]; rfl
theorem lowA_step {r : List Str} {m : Int} {A : Str → Str → Int} {l : List (Str × Str)} {a b : Str} (h : (a, b) ∉ l) : (fun x y => if x = a ∧ y = b then lowA r m A l a b - m else lowA r m A l x y) = lowA r m A (l ++ [(a, b)]) := by
  funext x y
  unfold lowA
  by_cases c : x = a ∧ y = b
  · rw [if_pos c, if_neg h, c.1, c.2, if_pos (List.mem_append_right _ List.mem_cons_self)]
  · rw [if_neg c]
    have : (x, y) ∈ l ++ [(a, b)] ↔ (x, y) ∈ l := ⟨fun z => (List.mem_append.mp z).elim id fun z => absurd (List.mem_singleton.mp z) fun e => c (by injection e with e1 e2; exact ⟨e1, e2⟩), List.mem_append_left _⟩
    by_cases d : (x, y) ∈ l
    · rw [if_pos d, if_pos (this.mpr d)]
    · rw [if_neg d, if_neg fun z => d (this.mp z)]
theorem lowA_not {r : List Str} {m : Int} {A : Str → Str → Int} {l : List (Str × Str)} {a b : Str} (h : (a, b) ∉ l) : lowA r m A l a b = A a b := by unfold lowA; rw [if_neg h]
theorem cut_on1 (xs : List V) : cutV xs (some 1) none = xs.drop 1 := cut_onV xs
theorem cut_to1 (xs : List V) : cutV xs none (some 1) = xs.take 1 := by
  unfold cutV
  have h1 : HT.sIx xs.length 0 none = 0 := rfl
  have h2 : HT.sIx xs.length xs.length (some 1) = min 1 xs.length := HT.sIx_nat _ _ 1
  rw [h1, h2]
  cases xs with
  | nil => rfl
  | cons x r => rw [show min 1 (x :: r).length = 1 by rw [List.length_cons]; omega]; rfl
theorem dA_get {H : Hp} {D t : Addr} {vs : List T3} {A : Str → Str → Int} {a b : Str} (hD : H D = some (.dT (dA vs A))) (ht : H t = some (.tup [.str a, .str b])) (hp : ∃ p ∈ vs, p.1 = a ∧ p.2.1 = b) : DGet H D (.ref t) (some (.int (A a b))) := by
  have := DGet.t (k := k2 a b) hD ht
  rw [dA_val hp] at this
  exact this
theorem dA_dput {H : Hp} {D t : Addr} {vs : List T3} {A : Str → Str → Int} {a b : Str} {v : Int} (hD : H D = some (.dT (dA vs A))) (ht : H t = some (.tup [.str a, .str b])) (hp : ∃ p ∈ vs, p.1 = a ∧ p.2.1 = b) (hl : vs.length ≤ 600) : DPut H D (.ref t) (.int v) (upd H D (.dT (dA vs fun x y => if x = a ∧ y = b then v else A x y))) := by
  have := DPut.t (k := k2 a b) (v := .int v) hD ht (szLt (by unfold dA; rw [List.length_map]; omega))
  rw [dA_put hp] at this
  exact this
structure RI (C : Addr) (H H' : Hp) (x dc dO l D : Addr) (vs : List T3) (ms N : List Str) (i : Nat) (A : Str → Str → Int) (gi : List GE) : Prop where
  sm : Same H H'
  kl : H' l = some (.lst (ms.map V.str))
  wy : Ways C H' x dc dO gi
  nm : gi.map (·.1) = N
  fb : ∀ e ∈ gi, H e.2.1 = none ∧ e.2.1 ≠ l
  kD : H' D = some (.dT (dA vs A))
  rs : RS vs ms i A (outs gi)
theorem RI.same {C : Addr} {H H' H2 : Hp} {x dc dO l D : Addr} {vs : List T3} {ms N : List Str} {i : Nat} {A : Str → Str → Int} {gi : List GE} (h : RI C H H' x dc dO l D vs ms N i A gi) (s : Same H' H2) : RI C H H2 x dc dO l D vs ms N i A gi :=
  ⟨h.sm.trans s, s _ _ h.kl, h.wy.same s, h.nm, h.fb, s _ _ h.kD, h.rs⟩
theorem vD_filter (cs : List TD) : vD (cs.filter fun p => decide (0 < p.2.2.2)) = (vD cs).filter posT := by
  unfold vD
  rw [List.filter_map]
  rfl
theorem A0_dA {vs : List T3} (pw : vs.Pairwise S3) : vs.map (fun p => (k2 p.1 p.2.1, V.int p.2.2)) = dA vs (A0 vs) := by
  unfold dA
  exact List.map_congr_left fun p hp => by rw [A0_of pw hp]
theorem k2_nd {vs : List T3} (pw : vs.Pairwise S3) : ((vs.map fun p => (k2 p.1 p.2.1, V.int p.2.2)).map (·.1)).Nodup := by
  rw [List.map_map]
  show List.Pairwise (· ≠ ·) _
  rw [List.pairwise_map]
  exact pw.imp fun {a b} h (z : k2 a.1 a.2.1 = k2 b.1 b.2.1) => s3_ne h (by obtain ⟨e1, e2⟩ := k2_inj z; rw [e1, e2])
theorem dpr_same {H H' : Hp} (s : Same H H') {ts : List Addr} {kvs : List (List Key × V)} (h : Paired (DPr H) ts kvs) : Paired (DPr H') ts kvs := Paired.mapP h fun _ _ ⟨a, h1, h2⟩ => ⟨a, s _ _ h1, s _ _ h2⟩
theorem vD_snoc {ps : List TD} {i : Nat} {y : TD} (h : ps[i]? = some y) {β : Type} (f : T3 → β) : ((vD ps).take (i + 1)).map f = ((vD ps).take i).map f ++ [f y.2] := by rw [vD_take ps i h, List.map_append]; rfl
theorem rw1_pos {nm : List Str} {T : List (Int × Int)} {v : T3} (h : v ∈ T.flatMap (rw1 nm)) : 0 < v.2.2 := by
  obtain ⟨y, _, hy⟩ := List.mem_flatMap.mp h
  unfold rw1 at hy
  split at hy
  · rw [List.mem_singleton.mp hy]; assumption
  · split at hy
    · rw [List.mem_singleton.mp hy]; show 0 < -y.2; omega
    · cases hy
structure KW (g : Gr) (N Pd Rd : List Str) (ρ : Str → Int) : Prop where
  sub : ∀ x ∈ Pd ++ Rd, x ∈ N
  nd : (Pd ++ Rd).Nodup
  pre : ∀ x ∈ Pd ++ Rd, ∀ d, x ∈ g d → d ∈ Pd
  all : ∀ x ∈ N, x ∉ Pd → x ∉ Rd → ∃ d, d ∉ Pd ∧ x ∈ g d
  le : ∀ d ∈ Pd, ∀ c ∈ g d, ρ d + 1 ≤ ρ c
  ex : ∀ c, ρ c = 0 ∨ ∃ d ∈ Pd, c ∈ g d ∧ ρ c = ρ d + 1
def upR (g : Gr) (d : Str) (ρ : Str → Int) (l : List Str) : Str → Int := fun c => if c ∈ l then (if ρ d + 1 > ρ c then ρ d + 1 else ρ c) else ρ c
theorem KW.step {g : Gr} {N Pd Rd : List Str} {ρ : Str → Int} {d : Str} (h : KW g N Pd (Rd ++ [d]) ρ) (gnd : (g d).Nodup) (gN : ∀ c ∈ g d, c ∈ N) {f : Str → Bool} (hf : ∀ c, f c = true ↔ ∀ e, c ∈ g e → e = d ∨ e ∈ Pd) : KW g N (d :: Pd) (Rd ++ (g d).filter f) (upR g d ρ (g d)) := by
  have dm : d ∈ Pd ++ (Rd ++ [d]) := List.mem_append_right _ (List.mem_append_right _ List.mem_cons_self)
  obtain ⟨n1, n2, n3⟩ := List.nodup_append.mp h.nd
  obtain ⟨m1, m2, m3⟩ := List.nodup_append.mp n2
  have dP : d ∉ Pd := fun z => n3 d z d (List.mem_append_right _ List.mem_cons_self) rfl
  have dR : d ∉ Rd := fun z => m3 d z d List.mem_cons_self rfl
  have dg : d ∉ g d := fun z => dP (h.pre d dm d z)
  have pg : ∀ x ∈ Pd ++ (Rd ++ [d]), x ∉ g d := fun x hx z => dP (h.pre x hx d z)
  have inR : ∀ {x}, x ∈ Rd → x ∈ Pd ++ (Rd ++ [d]) := fun hx => List.mem_append_right _ (List.mem_append_left _ hx)
  have same : ∀ x, x ∉ g d → upR g d ρ (g d) x = ρ x := fun x hx => by unfold upR; rw [if_neg hx]
  have mono : ∀ x, ρ x ≤ upR g d ρ (g d) x := fun x => by unfold upR; split <;> (try split) <;> omega
  have memF : ∀ {x}, x ∈ (g d).filter f ↔ x ∈ g d ∧ f x = true := List.mem_filter
  refine ⟨fun x hx => ?_, ?_, fun x hx e he => ?_, fun x hN hP hR => ?_, fun e he c hc => ?_, fun c => ?_⟩
  · rcases List.mem_append.mp hx with hx | hx
    · rcases List.mem_cons.mp hx with rfl | hx
      · exact h.sub x dm
      · exact h.sub x (List.mem_append_left _ hx)
    · rcases List.mem_append.mp hx with hx | hx
      · exact h.sub x (inR hx)
      · exact gN x (memF.mp hx).1
  · rw [List.nodup_append]
    refine ⟨List.nodup_cons.mpr ⟨dP, n1⟩, ?_, fun a ha b hb e => ?_⟩
    · rw [List.nodup_append]
      exact ⟨m1, gnd.filter _, fun a ha b hb e => pg a (inR ha) (e ▸ (memF.mp hb).1)⟩
    · subst e
      rcases List.mem_append.mp hb with hb' | hb'
      · rcases List.mem_cons.mp ha with z | ha
        · exact dR (by rw [← z]; exact hb')
        · exact n3 a ha a (List.mem_append_left _ hb') rfl
      · have := (memF.mp hb').1
        rcases List.mem_cons.mp ha with rfl | ha
        · exact dg this
        · exact pg a (List.mem_append_left _ ha) this
  · rcases List.mem_append.mp hx with hx | hx
    · rcases List.mem_cons.mp hx with rfl | hx
      · exact List.mem_cons_of_mem _ (h.pre x dm e he)
      · exact List.mem_cons_of_mem _ (h.pre x (List.mem_append_left _ hx) e he)
    · rcases List.mem_append.mp hx with hx | hx
      · exact List.mem_cons_of_mem _ (h.pre x (inR hx) e he)
      · rcases (hf x).mp (memF.mp hx).2 e he with z | z
        · rw [z]; exact List.mem_cons_self
        · exact List.mem_cons_of_mem _ z
  · have nd' : x ≠ d := fun z => hP (by rw [z]; exact List.mem_cons_self)
    have nP : x ∉ Pd := fun z => hP (List.mem_cons_of_mem _ z)
    have nR : x ∉ Rd := fun z => hR (List.mem_append_left _ z)
    by_cases c : x ∈ g d
    · have : f x ≠ true := fun z => hR (List.mem_append_right _ (memF.mpr ⟨c, z⟩))
      refine Classical.byContradiction fun no => this ((hf x).mpr fun e he => ?_)
      by_cases q : e ∈ d :: Pd
      · exact List.mem_cons.mp q
      · exact (no ⟨e, q, he⟩).elim
    · obtain ⟨e, e1, e2⟩ := h.all x hN nP fun z => (List.mem_append.mp z).elim nR fun z => nd' (List.mem_singleton.mp z)
      refine ⟨e, fun z => ?_, e2⟩
      rcases List.mem_cons.mp z with rfl | z
      · exact c e2
      · exact e1 z
  · rcases List.mem_cons.mp he with rfl | he
    · rw [same e dg]
      unfold upR
      rw [if_pos hc]
      split <;> omega
    · rw [same e (pg e (List.mem_append_left _ he))]
      have := h.le e he c hc
      have := mono c
      omega
  · by_cases q : c ∈ g d
    · by_cases w : ρ d + 1 > ρ c
      · refine .inr ⟨d, List.mem_cons_self, q, ?_⟩
        rw [same d dg]
        unfold upR
        rw [if_pos q, if_pos w]
      · have e1 : upR g d ρ (g d) c = ρ c := by unfold upR; rw [if_pos q, if_neg w]
        rw [e1]
        rcases h.ex c with z | ⟨e, he, h1, h2⟩
        · exact .inl z
        · exact .inr ⟨e, List.mem_cons_of_mem _ he, h1, by rw [same e (pg e (List.mem_append_left _ he))]; exact h2⟩
    · rw [same c q]
      rcases h.ex c with z | ⟨e, he, h1, h2⟩
      · exact .inl z
      · exact .inr ⟨e, List.mem_cons_of_mem _ he, h1, by rw [same e (pg e (List.mem_append_left _ he))]; exact h2⟩
theorem KW.done {g : Gr} {N Pd : List Str} {ρ : Str → Int} (h : KW g N Pd [] ρ) (a : Acy g) (gN : ∀ x y, y ∈ g x → x ∈ N) : ∀ x ∈ N, x ∈ Pd := by
  obtain ⟨rk, hrk⟩ := a
  have key : ∀ n x, x ∈ N → rk x ≤ n → x ∈ Pd := fun n => by
    induction n with
    | zero =>
      intro x hx hr
      refine Classical.byContradiction fun no => ?_
      obtain ⟨d, _, d2⟩ := h.all x hx no (fun z => nomatch z)
      have := hrk d x d2
      omega
    | succ n ih =>
      intro x hx hr
      refine Classical.byContradiction fun no => ?_
      obtain ⟨d, d1, d2⟩ := h.all x hx no (fun z => nomatch z)
      have := hrk d x d2
      exact d1 (ih d (gN d x d2) (by omega))
  exact fun x hx => key (rk x) x hx (Nat.le_refl _)
theorem KW.start {g : Gr} {N Rd : List Str} (sub : ∀ x ∈ Rd, x ∈ N) (nd : Rd.Nodup) (free : ∀ x ∈ Rd, ∀ d, x ∉ g d) (rest : ∀ x ∈ N, x ∉ Rd → ∃ d, x ∈ g d) : KW g N [] Rd (fun _ => 0) :=
  ⟨fun x hx => sub x hx, nd, fun x hx d hd => absurd hd (free x hx d), fun x hN _ hR => by obtain ⟨d, hd⟩ := rest x hN hR; exact ⟨d, (fun z => nomatch z), hd⟩, fun d hd => (nomatch hd), fun c => .inl rfl⟩
def kvM (ms : List Str) (ρ : Str → Int) : List (Key × V) := ms.map fun n => (Sum.inr n, V.int (ρ n))
theorem kvM_val {ms : List Str} {ρ : Str → Int} {n : Str} (nd : ms.Nodup) (h : n ∈ ms) : valV (kvM ms ρ) (Sum.inr n) = some (.int (ρ n)) :=
  val_map (fun n : Str => n) (fun n => V.int (ρ n)) (by rw [List.map_id']; exact nd) h
theorem kvM_put {ms : List Str} {ρ : Str → Int} {y : Str} {v : Int} (h : y ∈ ms) : putK (kvM ms ρ) (Sum.inr y) (.int v) = kvM ms fun z => if z = y then v else ρ z := by
  unfold kvM
  rw [put_map (fun n : Str => n) (fun n => V.int (ρ n)) (by rw [List.map_id']; exact h)]
  refine List.map_congr_left fun e _ => ?_
  dsimp only
  by_cases c : e = y
  · rw [if_pos c, if_pos c]
  · rw [if_neg c, if_neg c]
theorem nd_perm {α : Type} [DecidableEq α] {l m : List α} (h1 : l.Nodup) (h2 : m.Nodup) (h : ∀ x, x ∈ l ↔ x ∈ m) : l.Perm m := by
  refine List.perm_iff_count.mpr fun a => ?_
  rw [h1.count, h2.count]
  by_cases c : a ∈ l
  · rw [if_pos c, if_pos ((h a).mp c)]
  · rw [if_neg c, if_neg fun z => c ((h a).mpr z)]
theorem sum_permI {l m : List Int} (p : l.Perm m) : l.sum = m.sum := by
  induction p with
  | nil => rfl
  | cons x _ ih => rw [List.sum_cons, List.sum_cons, ih]
  | swap x y l => rw [List.sum_cons, List.sum_cons, List.sum_cons, List.sum_cons]; omega
  | trans _ _ h1 h2 => exact h1.trans h2
def ind (a z : Str) : Int := if a = z then 1 else 0
def netI (L : List T3) (z : Str) : Int := (L.map fun p => p.2.2 * ind p.2.1 z - p.2.2 * ind p.1 z).sum
theorem sum_sub (l : List (Str × Str)) (z : Str) : (l.map fun q => ind q.2 z - ind q.1 z).sum = ((l.map (·.2)).map fun a => ind a z).sum - ((l.map (·.1)).map fun a => ind a z).sum := by
  induction l with
  | nil => rfl
  | cons a l ih => rw [List.map_cons, List.map_cons, List.map_cons, List.map_cons, List.map_cons, List.sum_cons, List.sum_cons, List.sum_cons, ih]; omega
theorem prs_sum (r : List Str) (z : Str) : ((prs r).map fun q => ind q.2 z - ind q.1 z).sum = 0 := by
  rw [sum_sub, prs_fst]
  have e : (prs r).map (·.2) = r.drop 1 ++ r.take 1 := List.map_snd_zip (by rw [List.length_append, List.length_drop, List.length_take]; omega)
  rw [e]
  have p : (r.drop 1 ++ r.take 1).Perm r := (List.perm_append_comm).trans (by rw [List.take_append_drop])
  rw [sum_permI (p.map fun a => ind a z)]
  omega
theorem on_perm {L : List T3} (srt : L.Pairwise S3) {r : List Str} (h : RgV L r) : ((L.filter (onr r)).map fun p => (p.1, p.2.1)).Perm (prs r) := by
  have nd : r.Nodup := by obtain ⟨m, ok, _⟩ := h; exact ok.nd
  refine nd_perm ?_ (prs_nd nd) fun x => ⟨fun hx => ?_, fun hx => ?_⟩
  · show List.Pairwise (· ≠ ·) _
    rw [List.pairwise_map]
    exact (srt.filter _).imp fun {a b} z => s3_ne z
  · obtain ⟨p, hp, rfl⟩ := List.mem_map.mp hx
    exact of_decide_eq_true (List.mem_filter.mp hp).2
  · obtain ⟨p, hp, e1, e2⟩ := on_mem h (a := x.1) (b := x.2) hx
    refine List.mem_map.mpr ⟨p, List.mem_filter.mpr ⟨hp, decide_eq_true ?_⟩, by rw [e1, e2]⟩
    rw [e1, e2]; exact hx
theorem net_pos {z : Str} : ∀ {L : List T3}, (∀ p ∈ L, 0 ≤ p.2.2) → netI (L.filter posT) z = netI L z
  | [], _ => rfl
  | p :: L, h => by
    have ih := net_pos (z := z) (L := L) fun q hq => h q (List.mem_cons_of_mem _ hq)
    unfold netI at ih ⊢
    rw [List.filter_cons]
    by_cases c : posT p = true
    · rw [if_pos c, List.map_cons, List.map_cons, List.sum_cons, List.sum_cons, ih]
    · rw [if_neg c, List.map_cons, List.sum_cons, ih]
      have e : p.2.2 = 0 := by
        have := h p List.mem_cons_self
        have : ¬ 0 < p.2.2 := fun z => c (decide_eq_true z)
        omega
      rw [e, Int.zero_mul, Int.zero_mul]
      omega
theorem net_low {r : List Str} {m : Int} {z : Str} : ∀ (L : List T3), netI (L.map (lowr r m)) z = netI L z - m * (((L.filter (onr r)).map fun p => (p.1, p.2.1)).map fun q => ind q.2 z - ind q.1 z).sum
  | [] => by show (0 : Int) = 0 - m * 0; omega
  | p :: L => by
    have ih := net_low (r := r) (m := m) (z := z) L
    unfold netI at ih ⊢
    rw [List.map_cons, List.map_cons, List.map_cons, List.sum_cons, List.sum_cons, ih, List.filter_cons]
    by_cases c : onr r p = true
    · rw [if_pos c, List.map_cons, List.map_cons, List.sum_cons]
      unfold lowr
      rw [if_pos c]
      dsimp only
      rw [Int.mul_add, Int.mul_sub, Int.sub_mul, Int.sub_mul]
      omega
    · rw [if_neg c]
      unfold lowr
      rw [if_neg c]
      omega
theorem Cut.net {L L1 : List T3} {r : List Str} (srt : L.Pairwise S3) (pos : ∀ p ∈ L, 0 < p.2.2) (h : RgV L r) (c : Cut L r L1) (z : Str) : netI L1 z = netI L z := by
  obtain ⟨m, hm, rfl⟩ := c
  rw [net_pos, net_low, sum_permI ((on_perm srt h).map _), prs_sum]
  · omega
  · intro p hp
    obtain ⟨q, hq, rfl⟩ := List.mem_map.mp hp
    unfold lowr
    split
    · rename_i o
      have := hm.le q hq o
      show 0 ≤ q.2.2 - m
      omega
    · exact Int.le_of_lt (pos q hq)
theorem cut_pos {L : List T3} : ∀ p ∈ L.filter posT, 0 < p.2.2 := fun _ hp => of_decide_eq_true (List.mem_filter.mp hp).2
theorem Wk.net {L L2 : List T3} (h : Wk L L2) : L.Pairwise S3 → (∀ p ∈ L, 0 < p.2.2) → ∀ z, netI L2 z = netI L z := by
  induction h with
  | stop _ => intros; rfl
  | step lr ct _ ih =>
    intro srt pos z
    have e := ct.net srt pos lr.1 z
    obtain ⟨m, hm, rfl⟩ := ct
    rw [ih (s3_low srt) cut_pos z, e]
theorem Wk.up {L L2 : List T3} (h : Wk L L2) : (∀ p ∈ L, 0 < p.2.2) → ∀ q ∈ L2, ∃ p ∈ L, p.1 = q.1 ∧ p.2.1 = q.2.1 ∧ q.2.2 ≤ p.2.2 := by
  induction h with
  | stop _ => intro _ q hq; exact ⟨q, hq, rfl, rfl, Int.le_refl _⟩
  | step lr ct _ ih =>
    intro pos q hq
    obtain ⟨m, hm, rfl⟩ := ct
    obtain ⟨p, hp, e1, e2, e3⟩ := ih cut_pos q hq
    obtain ⟨p0, hp0, rfl⟩ := List.mem_map.mp (List.mem_filter.mp hp).1
    obtain ⟨l1, l2⟩ := low_fst _ m p0
    refine ⟨p0, hp0, l1.symm.trans e1, l2.symm.trans e2, ?_⟩
    obtain ⟨x, hx, _, ex⟩ := hm.ex
    have := pos x hx
    unfold lowr at e3
    split at e3
    · have e3 : q.2.2 ≤ p0.2.2 - m := e3
      omega
    · exact e3
theorem Wk.nor {L L2 : List T3} (h : Wk L L2) : NoR L2 := by
  induction h with
  | stop n => exact n
  | step _ _ _ ih => exact ih
inductive Rch (g : Gr) (n : Str) : Str → Prop
  | refl : Rch g n n
  | step {x y : Str} : Rch g n x → y ∈ g x → Rch g n y
theorem Rch.path {g : Gr} {n x : Str} (h : Rch g n x) : ∃ p : List Str, p.Nodup ∧ Chf g p ∧ p[0]? = some n ∧ p[p.length - 1]? = some x := by
  induction h with
  | refl => exact ⟨[n], by simp, (fun i a b _ hb => by have := (List.getElem?_eq_some_iff.mp hb).1; have : i + 1 < 1 := this; omega), rfl, rfl⟩
  | @step x y _ hy ih =>
    obtain ⟨p, nd, ch, h0, hl⟩ := ih
    have l0 : 0 < p.length := (List.getElem?_eq_some_iff.mp h0).1
    by_cases c : y ∈ p
    · obtain ⟨i, hi⟩ := List.mem_iff_getElem?.mp c
      have li := (List.getElem?_eq_some_iff.mp hi).1
      have tk : ∀ {j : Nat} {a : Str}, (p.take (i + 1))[j]? = some a → p[j]? = some a := fun {j a} ha => by
        have := (List.getElem?_eq_some_iff.mp ha).1
        rw [List.length_take] at this
        rw [List.getElem?_take_of_lt (by omega)] at ha
        exact ha
      refine ⟨p.take (i + 1), nd.sublist (List.take_sublist _ _), fun j a b ha hb => ch j a b (tk ha) (tk hb), by rw [List.getElem?_take_of_lt (by omega)]; exact h0, ?_⟩
      rw [List.length_take, show min (i + 1) p.length - 1 = i by omega, List.getElem?_take_of_lt (by omega)]
      exact hi
    · refine ⟨p ++ [y], List.nodup_append.mpr ⟨nd, by simp, fun a ha b hb e => c (by rw [List.mem_singleton.mp hb] at e; rw [← e]; exact ha)⟩, fun j a b ha hb => ?_, by rw [List.getElem?_append_left l0]; exact h0, ?_⟩
      · have lj := (List.getElem?_eq_some_iff.mp hb).1
        rw [List.length_append] at lj
        have lj : j + 1 < p.length + 1 := lj
        rw [List.getElem?_append_left (by omega)] at ha
        by_cases e : j + 1 < p.length
        · rw [List.getElem?_append_left e] at hb
          exact ch j a b ha hb
        · rw [show j = p.length - 1 by omega, hl] at ha
          rw [List.getElem?_append_right (by omega), show j + 1 - p.length = 0 by omega] at hb
          cases ha
          cases hb
          exact hy
      · rw [List.length_append, List.getElem?_append_right (by show p.length ≤ p.length + 1 - 1; omega), show p.length + [y].length - 1 - p.length = 0 by show p.length + 1 - 1 - p.length = 0; omega]
        rfl
def rst (g : Gr) (pre : List Str) : Gr := fun x => if x ∈ pre then [] else g x
theorem rst_snoc (g : Gr) (pre : List Str) (n : Str) : rst g (pre ++ [n]) = lvg (rst g pre) n := by
  funext x
  unfold rst lvg
  dsimp only
  by_cases c : x = n
  · rw [if_pos c, if_pos (List.mem_append_right _ (by rw [c]; exact List.mem_cons_self))]
  · rw [if_neg c]
    by_cases d : x ∈ pre
    · rw [if_pos d, if_pos (List.mem_append_left _ d)]
    · rw [if_neg d, if_neg fun z => (List.mem_append.mp z).elim d fun z => c (List.mem_singleton.mp z)]
theorem rst_mem {g : Gr} {pre : List Str} {x y : Str} (h : y ∈ rst g pre x) : x ∉ pre ∧ y ∈ g x := by
  unfold rst at h
  by_cases d : x ∈ pre
  · rw [if_pos d] at h; cases h
  · rw [if_neg d] at h; exact ⟨d, h⟩
theorem nor_acy {L : List T3} {ms : List Str} (pw : ms.Pairwise klt) (mem : ∀ x y, y ∈ outsP (bld L) x → x ∈ ms) (no : NoR L) : Acy (outsP (bld L)) := by
  have key : ∀ (suf pre : List Str), ms = pre ++ suf → Acy (rst (outsP (bld L)) pre) := fun suf => by
    induction suf with
    | nil =>
      intro pre e
      rw [List.append_nil] at e
      refine ⟨fun _ => 0, fun x y hy => ?_⟩
      obtain ⟨h1, h2⟩ := rst_mem hy
      exact absurd (by rw [← e]; exact mem x y h2) h1
    | cons n suf ih =>
      intro pre e
      have a := ih (pre ++ [n]) (by rw [e, List.append_assoc]; rfl)
      rw [rst_snoc] at a
      have fin : ∀ x, rst (outsP (bld L)) pre x ≠ [] → x ∈ n :: suf := fun x hx => by
        obtain ⟨y, hy⟩ := List.exists_mem_of_ne_nil _ hx
        obtain ⟨h1, h2⟩ := rst_mem hy
        have := mem x y h2
        rw [e] at this
        exact (List.mem_append.mp this).resolve_left h1
      refine acy_on fin a ⟨Rch (rst (outsP (bld L)) pre) n, .refl, fun x hx y hy => ⟨hx.step hy, fun en => ?_⟩⟩
      rw [en] at hy
      obtain ⟨p, nd, ch, h0, hl⟩ := hx.path
      have ok : RingOk (rst (outsP (bld L)) pre) n p := ⟨nd, ch, h0, fun a ha => by rw [hl] at ha; cases ha; exact hy⟩
      refine no p ⟨n, ok.mono fun x _ y hy => (rst_mem hy).2, fun y hy => ?_⟩
      have hm : y ∈ n :: suf := fin y fun z => by
        rw [← prs_fst p] at hy
        obtain ⟨q, hq, eq⟩ := List.mem_map.mp hy
        have := ring_edge ok (a := q.1) (b := q.2) hq
        rw [eq, z] at this
        cases this
      refine (List.mem_cons.mp hm).imp id fun hs => ?_
      rw [e] at pw
      exact (List.pairwise_cons.mp (List.pairwise_append.mp pw).2.1).1 y hs
  have := key ms [] rfl
  have e : rst (outsP (bld L)) [] = outsP (bld L) := by funext x; unfold rst; rw [if_neg (fun z => nomatch z)]
  rw [e] at this
  exact this
theorem part_at {f : T3 → T3} (hf : ∀ p, (f p).1 = p.1 ∧ (f p).2.1 = p.2.1) {vs : List T3} (pw : vs.Pairwise S3) {i : Nat} {p : T3} (h : vs[i]? = some p) :
    (posT (f p) = true ∧ ((vs.map f).filter posT)[(((vs.take i).map f).filter posT).length]? = some (f p)) ∨ (posT (f p) = false ∧ ∀ q, ((vs.map f).filter posT)[(((vs.take i).map f).filter posT).length]? = some q → ¬ (q.1 = p.1 ∧ q.2.1 = p.2.1)) := by
  have li := (List.getElem?_eq_some_iff.mp h).1
  have ep : vs[i] = p := (List.getElem?_eq_some_iff.mp h).2
  have e : (vs.map f).filter posT = ((vs.take i).map f).filter posT ++ (if posT (f p) = true then [f p] else []) ++ ((vs.drop (i + 1)).map f).filter posT := by
    have : vs = vs.take i ++ p :: vs.drop (i + 1) := by rw [← ep, ← List.drop_eq_getElem_cons li, List.take_append_drop]
    have e2 : (vs.map f).filter posT = ((vs.take i ++ p :: vs.drop (i + 1)).map f).filter posT := by rw [← this]
    rw [e2, List.map_append, List.filter_append, List.map_cons, List.filter_cons]
    split <;> simp
  by_cases c : posT (f p) = true
  · refine .inl ⟨c, ?_⟩
    rw [e, if_pos c, List.append_assoc, List.getElem?_append_right (Nat.le_refl _), Nat.sub_self]
    rfl
  · refine .inr ⟨by simpa using c, fun q hq => ?_⟩
    rw [e, if_neg c, List.append_nil, List.getElem?_append_right (Nat.le_refl _), Nat.sub_self] at hq
    obtain ⟨z, hz, rfl⟩ := List.mem_map.mp (List.mem_filter.mp (List.mem_of_getElem? hq)).1
    rw [(hf z).1, (hf z).2]
    intro ⟨e1, e2⟩
    rw [← List.take_append_drop i vs, List.drop_eq_getElem_cons li, ep] at pw
    have := (List.pairwise_cons.mp (List.pairwise_append.mp pw).2.1).1 z hz
    exact s3_ne this (by rw [e1, e2])
def cF (A : Str → Str → Int) (p : T3) : T3 := (p.1, p.2.1, p.2.2 - A p.1 p.2.1)
def rF (A : Str → Str → Int) (p : T3) : T3 := (p.1, p.2.1, A p.1 p.2.1)
theorem part_more {vs : List T3} {A : Str → Str → Int} (pw : vs.Pairwise S3) (pos : ∀ p ∈ vs, 0 < p.2.2) (nn : ∀ p ∈ vs, 0 ≤ A p.1 p.2.1) (wk : Wk vs (cur vs A)) : ∀ p ∈ vs, A p.1 p.2.1 ≤ p.2.2 := fun p hp => by
  by_cases c : 0 < A p.1 p.2.1
  · obtain ⟨q, hq, e1, e2, e3⟩ := wk.up pos (p.1, p.2.1, A p.1 p.2.1) (List.mem_filter.mpr ⟨List.mem_map.mpr ⟨p, hp, rfl⟩, decide_eq_true c⟩)
    have a1 := A0_of pw hp
    have a2 := A0_of pw hq
    have e1 : q.1 = p.1 := e1
    have e2 : q.2.1 = p.2.1 := e2
    have e3 : A p.1 p.2.1 ≤ q.2.2 := e3
    rw [e1, e2] at a2
    omega
  · have := pos p hp
    omega
theorem wide_rank {nm : List Str} (nd : nm.Nodup) {vs : List T3} {ρ : Str → Int} (to : ∀ i j (hi : i < nm.length) (hj : j < nm.length), i < j → ∃ p ∈ vs, p.1 = nm[i] ∧ p.2.1 = nm[j]) (fro : ∀ p ∈ vs, ∃ i j, ∃ (hi : i < nm.length) (hj : j < nm.length), i < j ∧ p.1 = nm[i] ∧ p.2.1 = nm[j])
    (le : ∀ p ∈ vs, ρ p.1 + 1 ≤ ρ p.2.1) (ex : ∀ c, ρ c = 0 ∨ ∃ p ∈ vs, p.2.1 = c ∧ ρ c = ρ p.1 + 1) : ∀ j (hj : j < nm.length), ρ nm[j] = (j : Int) := by
  have inj : ∀ {i j : Nat} (hi : i < nm.length) (hj : j < nm.length), nm[i] = nm[j] → i = j := fun {i j} hi hj e => (List.getElem?_inj hi nd).mp (by rw [List.getElem?_eq_getElem hi, List.getElem?_eq_getElem hj, e])
  have up : ∀ n j (hj : j < nm.length), j ≤ n → ρ nm[j] ≤ (j : Int) := fun n => by
    induction n with
    | zero =>
      intro j hj h
      rcases ex nm[j] with z | ⟨p, hp, e1, e2⟩
      · rw [z]; omega
      · obtain ⟨i, k, hi, hk, lt, _, e⟩ := fro p hp
        have := inj hj hk (e1.symm.trans e)
        omega
    | succ n ih =>
      intro j hj h
      rcases ex nm[j] with z | ⟨p, hp, e1, e2⟩
      · rw [z]; omega
      · obtain ⟨i, k, hi, hk, lt, e3, e⟩ := fro p hp
        have := inj hj hk (e1.symm.trans e)
        have := ih i hi (by omega)
        rw [e2, e3]
        omega
  have dn : ∀ j (hj : j < nm.length), (j : Int) ≤ ρ nm[j] := fun j => by
    induction j with
    | zero =>
      intro hj
      rcases ex nm[0] with z | ⟨p, hp, e1, e2⟩
      · rw [z]; omega
      · obtain ⟨i, k, hi, hk, lt, _, e⟩ := fro p hp
        have := inj hj hk (e1.symm.trans e)
        omega
    | succ j ih =>
      intro hj
      obtain ⟨p, hp, e1, e2⟩ := to j (j + 1) (by omega) hj (by omega)
      have := le p hp
      have := ih (by omega)
      rw [e1, e2] at *
      omega
  exact fun j hj => by have := up j j hj (Nat.le_refl _); have := dn j hj; omega
theorem wide_acy {nm : List Str} (nd : nm.Nodup) {vs : List T3} (fro : ∀ p ∈ vs, ∃ i j, ∃ (hi : i < nm.length) (hj : j < nm.length), i < j ∧ p.1 = nm[i] ∧ p.2.1 = nm[j]) : Acy (outsP (bld vs)) := by
  have ix : ∀ {i : Nat} (hi : i < nm.length), nm.idxOf nm[i] = i := fun {i} hi => nd.idxOf_getElem i hi
  refine ⟨fun x => nm.idxOf x, fun x y hy => ?_⟩
  obtain ⟨p, hp, rfl, rfl⟩ := (bld_edge _ _ _).mp hy
  obtain ⟨i, j, hi, hj, lt, e1, e2⟩ := fro p hp
  dsimp only
  rw [e1, e2, ix hi, ix hj]
  exact lt
theorem cur_all {vs : List T3} {A : Str → Str → Int} (h : cur vs A = vs) : (vs.map (cF A)).filter posT = [] := by
  refine List.filter_eq_nil_iff.mpr fun p hp => ?_
  obtain ⟨q, hq, rfl⟩ := List.mem_map.mp hp
  have hq' := hq
  rw [← h] at hq'
  obtain ⟨z, _, e⟩ := List.mem_map.mp (List.mem_filter.mp hq').1
  intro c
  have c : 0 < q.2.2 - A q.1 q.2.1 := of_decide_eq_true c
  have e1 : z.1 = q.1 := congrArg (·.1) e
  have e2 : z.2.1 = q.2.1 := congrArg (·.2.1) e
  have e3 : A z.1 z.2.1 = q.2.2 := congrArg (·.2.2) e
  rw [e1, e2] at e3
  omega
theorem rst_cons (g : Gr) (Pd : List Str) (d : Str) : lvg (rst g Pd) d = rst g (d :: Pd) := by
  funext x
  unfold rst lvg
  dsimp only
  by_cases c : x = d
  · rw [if_pos c, if_pos (by rw [c]; exact List.mem_cons_self)]
  · rw [if_neg c]
    by_cases e : x ∈ Pd
    · rw [if_pos e, if_pos (List.mem_cons_of_mem _ e)]
    · rw [if_neg e, if_neg fun z => (List.mem_cons.mp z).elim c e]
theorem rst_out {g : Gr} {Pd : List Str} {x : Str} (h : x ∉ Pd) : rst g Pd x = g x := by unfold rst; rw [if_neg h]
theorem up_step {g : Gr} {d : Str} {ρ : Str → Int} {cs : List Str} {i : Nat} {c : Str} (hc : cs[i]? = some c) (nd : cs.Nodup) (dn : d ∉ cs) :
    (fun z => if z = c then (if upR g d ρ (cs.take i) d + 1 > upR g d ρ (cs.take i) c then upR g d ρ (cs.take i) d + 1 else upR g d ρ (cs.take i) c) else upR g d ρ (cs.take i) z) = upR g d ρ (cs.take (i + 1)) := by
  have li := (List.getElem?_eq_some_iff.mp hc).1
  have nin : c ∉ cs.take i := fun z => by
    obtain ⟨j, hj⟩ := List.mem_iff_getElem?.mp z
    have lj := (List.getElem?_eq_some_iff.mp hj).1
    rw [List.length_take] at lj
    rw [List.getElem?_take_of_lt (by omega)] at hj
    have := (List.getElem?_inj li nd).mp (hc.trans hj.symm)
    omega
  have e1 : upR g d ρ (cs.take i) d = ρ d := by unfold upR; rw [if_neg fun z => dn (List.mem_of_mem_take z)]
  have e2 : upR g d ρ (cs.take i) c = ρ c := by unfold upR; rw [if_neg nin]
  have tk : cs.take (i + 1) = cs.take i ++ [c] := by rw [List.take_add_one, hc]; rfl
  funext z
  rw [e1, e2, tk]
  by_cases q : z = c
  · rw [if_pos q, q]
    unfold upR
    rw [if_pos (List.mem_append_right _ List.mem_cons_self)]
  · rw [if_neg q]
    unfold upR
    by_cases m : z ∈ cs.take i
    · rw [if_pos m, if_pos (List.mem_append_left _ m)]
    · rw [if_neg m, if_neg fun w => (List.mem_append.mp w).elim m fun w => q (List.mem_singleton.mp w)]
theorem filter_snoc {cs : List Str} {i : Nat} {c : Str} (hc : cs[i]? = some c) (f : Str → Bool) : (cs.take (i + 1)).filter f = (cs.take i).filter f ++ (if f c = true then [c] else []) := by
  rw [List.take_add_one, hc, List.filter_append]
  show _ ++ [c].filter f = _
  rw [List.filter_cons, List.filter_nil]
structure RK (C : Addr) (H H' : Hp) (x dc dO dk ry : Addr) (ms N : List Str) (g : Gr) (Pd Rd : List Str) (ρ : Str → Int) (gi : List GE) : Prop where
  sm : Same H H'
  wy : Ways C H' x dc dO gi
  nm : gi.map (·.1) = N
  fb : ∀ e ∈ gi, H e.2.1 = none ∧ e.2.1 ≠ ry
  kk : H' dk = some (.dK (kvM ms ρ))
  kr : H' ry = some (.lst (Rd.map V.str))
  og : outs gi = rst g Pd
  kw : KW g ms Pd Rd ρ
theorem Ways.fr {C : Addr} {H H' : Hp} {x dc dO : Addr} {gs : List GE} (w : Ways C H x dc dO gs) (hx : ∀ o, H x = some o → H' x = some o) (hc : ∀ o, H dc = some o → H' dc = some o) (ho : ∀ o, H dO = some o → H' dO = some o) (hl : ∀ e ∈ gs, ∀ o, H e.2.1 = some o → H' e.2.1 = some o) : Ways C H' x dc dO gs := by
  obtain ⟨⟨dx, a⟩, b, c, d, e, f, g, h, i⟩ := w
  exact ⟨⟨dx, hx _ a⟩, hc _ b, ho _ c, d, fun z hz => hl z hz _ (e z hz), f, g, h, i⟩
theorem kvM_new {ms : List Str} {ρ : Str → Int} {y : Str} {v : V} (h : y ∉ ms) : putK (kvM ms ρ) (Sum.inr y) v = kvM ms ρ ++ [(Sum.inr y, v)] := by
  have hn : ¬ ((kvM ms ρ).any fun q => decide (q.1 = Sum.inr y)) = true := fun z => by
    obtain ⟨p, hp, e⟩ := List.any_eq_true.mp z
    obtain ⟨n, hn, rfl⟩ := List.mem_map.mp hp
    have e := Sum.inr.inj (of_decide_eq_true e)
    exact h (by rw [← e]; exact hn)
  unfold putK
  rw [if_neg hn]
theorem kvM_snoc {ms : List Str} {ρ : Str → Int} {i : Nat} {y : Str} (h : ms[i]? = some y) : kvM (ms.take (i + 1)) ρ = kvM (ms.take i) ρ ++ [(Sum.inr y, V.int (ρ y))] := by
  unfold kvM; rw [List.take_add_one, h, List.map_append]; rfl
theorem take_fresh {ms : List Str} (nd : ms.Nodup) {i : Nat} {y : Str} (h : ms[i]? = some y) : y ∉ ms.take i := fun z => by
  obtain ⟨j, hj⟩ := List.mem_iff_getElem?.mp z
  have lj := (List.getElem?_eq_some_iff.mp hj).1
  rw [List.length_take] at lj
  rw [List.getElem?_take_of_lt (by omega)] at hj
  have := (List.getElem?_inj (List.getElem?_eq_some_iff.mp h).1 nd).mp (h.trans hj.symm)
  omega
theorem kvM_len (ms : List Str) (ρ : Str → Int) : (kvM ms ρ).length = ms.length := List.length_map _
theorem net_step {ps : List TD} {i : Nat} {y : TD} (h : ps[i]? = some y) : (fun z => if z = y.2.2.1 then (if y.2.2.1 = y.2.1 then netI ((vD ps).take i) y.2.1 - y.2.2.2 else netI ((vD ps).take i) y.2.2.1) + y.2.2.2 else (if z = y.2.1 then netI ((vD ps).take i) y.2.1 - y.2.2.2 else netI ((vD ps).take i) z)) = netI ((vD ps).take (i + 1)) := by
  funext z
  have e : netI ((vD ps).take (i + 1)) z = netI ((vD ps).take i) z + (y.2.2.2 * ind y.2.2.1 z - y.2.2.2 * ind y.2.1 z) := by
    unfold netI; rw [vD_snoc h, List.sum_append]; simp
  rw [e]
  unfold ind
  by_cases c : z = y.2.2.1
  · rw [if_pos c, if_pos c.symm, Int.mul_one]
    by_cases d : y.2.2.1 = y.2.1
    · rw [if_pos d, if_pos (d.symm.trans c.symm), Int.mul_one, c, d]; omega
    · rw [if_neg d, if_neg fun w => d (c.symm.trans w.symm), Int.mul_zero, c]; omega
  · rw [if_neg c, if_neg (show ¬ y.2.2.1 = z from fun w => c w.symm), Int.mul_zero]
    by_cases d : z = y.2.1
    · rw [if_pos d, if_pos d.symm, Int.mul_one, d]; omega
    · rw [if_neg d, if_neg fun w => d w.symm, Int.mul_zero]; omega
def nF (f : T3 → T3) (vs : List T3) (i : Nat) : Nat := (((vs.take i).map f).filter posT).length
theorem nF_snoc {f : T3 → T3} {vs : List T3} {i : Nat} {p : T3} (h : vs[i]? = some p) : nF f vs (i + 1) = nF f vs i + if posT (f p) = true then 1 else 0 := by
  unfold nF
  rw [List.take_add_one, h, List.map_append, List.filter_append, List.length_append]
  congr 1
  show ([f p].filter posT).length = _
  rw [List.filter_cons, List.filter_nil]
  split <;> rfl
theorem vD_get {ps : List TD} {i : Nat} {y : TD} (h : ps[i]? = some y) : (vD ps)[i]? = some y.2 := by unfold vD; rw [List.getElem?_map, h]; rfl
def mF (f : T3 → T3) (p : T3) : Int := if posT (f p) = true then (f p).2.2 else 0
theorem eqKd (a b d c : Str) : eqVs [V.str a, V.str b] [V.str d, V.str c] = decide (a = d ∧ b = c) := by
  rw [eqK]
  by_cases e : a = d ∧ b = c
  · rw [decide_eq_true e, decide_eq_true (by rw [e.1, e.2])]
  · rw [decide_eq_false e, decide_eq_false fun z => e (by injection z with z1 z2; injection z2 with z2 _; exact ⟨z1, z2⟩)]
theorem bldF_in (g : List (Str × List Str)) (p : T3) : p.1 ∈ (bldF g p).map (·.1) ∧ p.2.1 ∈ (bldF g p).map (·.1) ∧ ∀ n ∈ g.map (·.1), n ∈ (bldF g p).map (·.1) := by
  unfold bldF
  rw [addE_names]
  exact ⟨(addN_mem _ _).2 _ (addN_mem _ _).1, (addN_mem _ _).1, fun n hn => (addN_mem _ _).2 _ ((addN_mem _ _).2 _ hn)⟩
theorem bld_keep : ∀ (vs : List T3) {g : List (Str × List Str)} {n : Str}, n ∈ g.map (·.1) → n ∈ (vs.foldl bldF g).map (·.1)
  | [], _, _, h => h
  | p :: vs, g, n, h => bld_keep vs ((bldF_in g p).2.2 n h)
theorem bld_endsF : ∀ {vs : List T3} {g : List (Str × List Str)} {p : T3}, p ∈ vs → p.1 ∈ (vs.foldl bldF g).map (·.1) ∧ p.2.1 ∈ (vs.foldl bldF g).map (·.1)
  | q :: vs, g, p, h => by
    rcases List.mem_cons.mp h with rfl | h
    · exact ⟨bld_keep vs (bldF_in g p).1, bld_keep vs (bldF_in g p).2.1⟩
    · exact bld_endsF (vs := vs) h
theorem bld_ends {vs : List T3} {p : T3} (h : p ∈ vs) : p.1 ∈ (bld vs).map (·.1) ∧ p.2.1 ∈ (bld vs).map (·.1) := bld_endsF h
theorem eqV_self {x : V} (h : flatV x = true) {K : PySem.W.Frag} {H : Hp} {n : Nat} (e : eqV x x = true) : EqH K H n x x true := e ▸ EqH.flat h h
theorem eq_td {K : PySem.W.Frag} {H : Hp} {n : Nat} {p q : TD} (hp : H p.1 = some (.tup [.str p.2.1, .str p.2.2.1, .int p.2.2.2])) (hq : H q.1 = some (.tup [.str q.2.1, .str q.2.2.1, .int q.2.2.2])) (e : p.2 = q.2) : EqH K H (n + 1) (rd p) (rd q) true := by
  by_cases c : p.1 = q.1
  · have : rd p = rd q := congrArg V.ref c
    rw [this]; exact .same
  · rw [e] at hp
    have h := EqH.tup (K := K) (n := n) (fun _ => true) c (.inl (.inl hp)) (.inl (.inl hq)) rfl (fun j hj => by
      rcases j with _ | _ | _ | j
      · exact eqV_self rfl (by simp [eqV])
      · exact eqV_self rfl (by simp [eqV])
      · exact eqV_self rfl (by simp [eqV])
      · exact absurd hj (by show ¬ j + 3 < 3; omega))
    exact h
theorem eq_tds {K : PySem.W.Frag} {H : Hp} {n : Nat} {rs qs : List TD} {l l' : Addr} (hl : H l = some (.lst (rs.map rd))) (hl' : H l' = some (.lst (qs.map rd))) (hr : Tds H rs) (hq : Tds H qs) (e : vD rs = vD qs) : EqH K H (n + 2) (.ref l) (.ref l') true := by
  by_cases c : l = l'
  · rw [c]; exact .same
  · have len : rs.length = qs.length := by have := congrArg List.length e; unfold vD at this; rw [List.length_map, List.length_map] at this; exact this
    have h := EqH.lst (K := K) (n := n + 1) (fun _ => true) c (.inl (.inl hl)) (.inl (.inl hl')) (by rw [List.length_map, List.length_map]; exact len) (fun j hj => by
      rw [List.length_map] at hj
      have e1 : (rs.map rd).getD j .non = rd rs[j] := by rw [List.getD_eq_getElem?_getD, List.getElem?_map, List.getElem?_eq_getElem hj]; rfl
      have e2 : (qs.map rd).getD j .non = rd (qs[j]'(by omega)) := by rw [List.getD_eq_getElem?_getD, List.getElem?_map, List.getElem?_eq_getElem (by omega)]; rfl
      rw [e1, e2]
      refine eq_td (hr _ (List.getElem_mem hj)) (hq _ (List.getElem_mem _)) ?_
      have h1 : (vD rs)[j]? = some rs[j].2 := vD_get (List.getElem?_eq_getElem hj)
      rw [e] at h1
      have h2 : (vD qs)[j]? = some (qs[j]'(by omega)).2 := vD_get (List.getElem?_eq_getElem (by omega))
      exact Option.some.inj (h1.symm.trans h2))
    have ea : (List.range (rs.map rd).length).all (fun _ => true) = true := by simp
    rw [ea] at h
    exact h
structure WB (nm : List Str) (k j : Nat) (vs : List T3) : Prop where
  fro : ∀ p ∈ vs, ∃ i h, ∃ (hi : i < nm.length) (hh : h < nm.length), i < h ∧ (i < k ∨ (i = k ∧ h < j)) ∧ p.1 = nm[i] ∧ p.2.1 = nm[h]
  to : ∀ i h (hi : i < nm.length) (hh : h < nm.length), i < h → (i < k ∨ (i = k ∧ h < j)) → ∃ p ∈ vs, p.1 = nm[i] ∧ p.2.1 = nm[h]
  sr : vs.Pairwise S3
  pos : ∀ p ∈ vs, 0 < p.2.2
theorem WB.start (nm : List Str) : WB nm 0 0 [] := ⟨(fun p hp => nomatch hp), (fun i h _ _ _ z => by omega), .nil, (fun p hp => nomatch hp)⟩
theorem WB.row {nm : List Str} {k j j' : Nat} {vs : List T3} (w : WB nm k j vs) (hj : j = nm.length) (hj' : j' ≤ k + 2) : WB nm (k + 1) j' vs := by
  refine ⟨fun p hp => ?_, fun i h hi hh lt z => ?_, w.sr, w.pos⟩
  · obtain ⟨i, h, hi, hh, lt, z, e⟩ := w.fro p hp
    exact ⟨i, h, hi, hh, lt, by omega, e⟩
  · exact w.to i h hi hh lt (by omega)
theorem WB.low {nm : List Str} {k j j' : Nat} {vs : List T3} (w : WB nm k j vs) (hj : j ≤ k + 1) (hj' : j' ≤ k + 1) : WB nm k j' vs := by
  refine ⟨fun p hp => ?_, fun i h hi hh lt z => ?_, w.sr, w.pos⟩
  · obtain ⟨i, h, hi, hh, lt, z, e⟩ := w.fro p hp
    exact ⟨i, h, hi, hh, lt, by omega, e⟩
  · exact w.to i h hi hh lt (by omega)
theorem WB.add {nm : List Str} {k j : Nat} {vs : List T3} (w : WB nm k j vs) (pw : nm.Pairwise klt) (hk : k < nm.length) (hj : j < nm.length) (lt : k < j) {v : Int} (hv : 0 < v) : WB nm k (j + 1) (vs ++ [(nm[k], nm[j], v)]) := by
  have up : ∀ {a b : Nat} (ha : a < nm.length) (hb : b < nm.length), a < b → klt nm[a] nm[b] := fun ha hb h => List.pairwise_iff_getElem.mp pw _ _ ha hb h
  refine ⟨fun p hp => ?_, fun i h hi hh l z => ?_, ?_, fun p hp => ?_⟩
  · rcases List.mem_append.mp hp with hp | hp
    · obtain ⟨i, h, hi, hh, lt, z, e⟩ := w.fro p hp
      exact ⟨i, h, hi, hh, lt, by omega, e⟩
    · rw [List.mem_singleton.mp hp]
      exact ⟨k, j, hk, hj, lt, by omega, rfl, rfl⟩
  · by_cases c : i = k ∧ h = j
    · obtain ⟨rfl, rfl⟩ := c
      exact ⟨_, List.mem_append_right _ List.mem_cons_self, rfl, rfl⟩
    · obtain ⟨p, hp, e⟩ := w.to i h hi hh l (by omega)
      exact ⟨p, List.mem_append_left _ hp, e⟩
  · refine List.pairwise_append.mpr ⟨w.sr, by simp, fun a ha b hb => ?_⟩
    rw [List.mem_singleton.mp hb]
    obtain ⟨i, h, hi, hh, l, z, e1, e2⟩ := w.fro a ha
    unfold S3
    rw [e1, e2]
    by_cases c : i < k
    · exact .inl ⟨klt_ne (up hi hk c), up hi hk c⟩
    · have ei : i = k := by omega
      subst ei
      exact .inr ⟨rfl, klt_ne (up hh hj (by omega)), up hh hj (by omega)⟩
  · rcases List.mem_append.mp hp with hp | hp
    · exact w.pos p hp
    · rw [List.mem_singleton.mp hp]; exact hv
theorem strict_of {ms : List Str} (pw : ms.Pairwise fun a b => ¬ keyL b < keyL a) (nd : ms.Nodup) : ms.Pairwise klt :=
  (pw.and nd).imp fun {a b} ⟨h1, h2⟩ => Classical.byContradiction fun h => h2 (keyL_inj (List.le_antisymm (List.not_lt.mp h1) (List.not_lt.mp h)))
theorem rng_ints (n : Nat) : rngV n = ((List.range n).map fun (i : Nat) => (i : Int)).map V.int := by unfold rngV; rw [List.map_map]; rfl
theorem ints_flat (l : List Int) : (l.map V.int).all flatV = true := by rw [List.all_map]; exact List.all_eq_true.mpr fun _ _ => rfl
theorem wide_ranks {nm : List Str} (nd : nm.Nodup) (l2 : 2 ≤ nm.length) {vs : List T3} {us : List T2} {ms : List Str} {ρ : Str → Int} (pw : nm.Pairwise klt) (to : ∀ i j (hi : i < nm.length) (hj : j < nm.length), i < j → ∃ p ∈ vs, p.1 = nm[i] ∧ p.2.1 = nm[j]) (fro : ∀ p ∈ vs, ∃ i j, ∃ (hi : i < nm.length) (hj : j < nm.length), i < j ∧ p.1 = nm[i] ∧ p.2.1 = nm[j])
    (le : ∀ p ∈ vs, ρ p.1 + 1 ≤ ρ p.2.1) (ex : ∀ c, ρ c = 0 ∨ ∃ p ∈ vs, p.2.1 = c ∧ ρ c = ρ p.1 + 1) (ev : v2 us = ms.map fun n => (n, ρ n)) (pm : ms.Perm ((bld vs).map (·.1))) (pwm : ms.Pairwise klt) :
    us.map (fun u => u.2.2) = (List.range nm.length).map fun (i : Nat) => (i : Int) := by
  have e : ms = nm := by
    refine srt_uniq (pm.trans (nd_perm (bld_nd vs) nd fun x => ⟨fun h => ?_, fun h => ?_⟩)) pwm pw
    · obtain ⟨p, hp, z⟩ := bld_names vs x h
      obtain ⟨i, j, hi, hj, _, e1, e2⟩ := fro p hp
      rcases z with z | z
      · rw [z, e1]; exact List.getElem_mem hi
      · rw [z, e2]; exact List.getElem_mem hj
    · obtain ⟨i, hi, rfl⟩ := List.mem_iff_getElem.mp h
      by_cases c : i = 0
      · obtain ⟨p, hp, e1, _⟩ := to i 1 hi (by omega) (by omega)
        rw [← e1]; exact (bld_ends hp).1
      · obtain ⟨p, hp, _, e2⟩ := to 0 i (by omega) hi (by omega)
        rw [← e2]; exact (bld_ends hp).2
  have r := wide_rank nd to fro le ex
  have e2 : us.map (fun u => u.2.2) = nm.map ρ := by
    have := congrArg (List.map (·.2)) ev
    unfold v2 at this
    rw [List.map_map, List.map_map, e] at this
    exact this
  rw [e2]
  refine List.ext_getElem (by rw [List.length_map, List.length_map, List.length_range]) fun i h1 h2 => ?_
  rw [List.length_map] at h1
  rw [List.getElem_map, List.getElem_map, List.getElem_range]
  exact r i h1
theorem klt_tri {a b : Str} (h : a ≠ b) : klt a b ∨ klt b a := by
  by_cases c : keyL b < keyL a
  · exact .inr c
  · exact .inl (Classical.byContradiction fun d => h (keyL_inj (List.le_antisymm (List.not_lt.mp c) (List.not_lt.mp d))))
theorem ex_srt : ∀ (l : List Str), ∃ ms : List Str, ms.Pairwise klt ∧ ∀ x ∈ l, x ∈ ms
  | [] => ⟨[], .nil, fun _ h => nomatch h⟩
  | a :: l => by
    obtain ⟨ms, pw, h⟩ := ex_srt l
    by_cases c : a ∈ ms
    · exact ⟨ms, pw, fun x hx => (List.mem_cons.mp hx).elim (fun e => by rw [e]; exact c) (h x)⟩
    · have low : ∀ x ∈ ms.filter fun x => decide (klt x a), klt x a := fun x hx => of_decide_eq_true (List.mem_filter.mp hx).2
      have high : ∀ x ∈ ms.filter fun x => decide (klt a x), klt a x := fun x hx => of_decide_eq_true (List.mem_filter.mp hx).2
      refine ⟨(ms.filter fun x => decide (klt x a)) ++ a :: ms.filter (fun x => decide (klt a x)), ?_, fun x hx => ?_⟩
      · refine List.pairwise_append.mpr ⟨pw.filter _, List.pairwise_cons.mpr ⟨fun x hx => high x hx, pw.filter _⟩, fun x hx y hy => ?_⟩
        rcases List.mem_cons.mp hy with rfl | hy
        · exact low x hx
        · exact List.lt_trans (low x hx) (high y hy)
      · rcases List.mem_cons.mp hx with rfl | hx
        · exact List.mem_append_right _ List.mem_cons_self
        · have hm := h x hx
          rcases klt_tri (show x ≠ a from fun e => c (e ▸ hm)) with k | k
          · exact List.mem_append_left _ (List.mem_filter.mpr ⟨hm, decide_eq_true k⟩)
          · exact List.mem_append_right _ (List.mem_cons_of_mem _ (List.mem_filter.mpr ⟨hm, decide_eq_true k⟩))
theorem wk_acy {L : List T3} (no : NoR L) : Acy (outsP (bld L)) := by
  obtain ⟨ms, pw, h⟩ := ex_srt (L.map (·.1))
  refine nor_acy pw (fun x y hy => ?_) no
  obtain ⟨p, hp, rfl, _⟩ := (bld_edge _ _ _).mp hy
  exact h _ (List.mem_map.mpr ⟨p, hp, rfl⟩)
theorem cur_s3 {vs : List T3} {A : Str → Str → Int} (pw : vs.Pairwise S3) : (cur vs A).Pairwise S3 :=
  List.Pairwise.filter _ (List.pairwise_map.mpr (pw.imp fun {a b} h => h))
theorem cur_mem {vs : List T3} {A : Str → Str → Int} {q : T3} (h : q ∈ cur vs A) : 0 < q.2.2 ∧ ∃ p ∈ vs, p.1 = q.1 ∧ p.2.1 = q.2.1 := by
  obtain ⟨h1, h2⟩ := List.mem_filter.mp h
  obtain ⟨p, hp, rfl⟩ := List.mem_map.mp h1
  exact ⟨of_decide_eq_true h2, p, hp, rfl, rfl⟩
theorem all_true (n : Nat) : ((List.range n).all fun _ => true) = true := by simp
theorem kvM_ints {ms : List Str} {ρ : Str → Int} : ∀ k v, (k, v) ∈ kvM ms ρ → ∃ i, v = V.int i := fun k v h => by
  obtain ⟨n, _, e⟩ := List.mem_map.mp h
  exact ⟨ρ n, (congrArg (·.2) e).symm⟩
section
variable {P : Program} {w : World} {K : PySem.W.Frag} {mg : Str → Option Value} {base : Heap}
seal PySem.wpAny
theorem sc_Ways___init__ : FnScope ["self", "book", "debtor", "creditor", "amount", "who"] ["self", "book"] (defScope (sub 4 0)) := ⟨rfl, rfl, rfl, by decide +kernel, rfl, by decide +kernel, by decide +kernel⟩
def sp_Ways___init__ (C : Addr) : Sp := fun vs H Q _ => ∃ (x dx b : Addr) (ps : List TD), vs = [.ref x, .ref b] ∧ H x = some (.ins C dx []) ∧ H b = some (.lst (ps.map rd)) ∧ Tds H ps ∧ ps.length ≤ 600 ∧ ∀ (H' : Hp) (dc dO : Addr) (gs : List GE), Ways C H' x dc dO gs → gs.map gv = bld (vD ps) → (∀ b o, b ≠ x → H b = some o → H' b = some o) → H dc = none → H dO = none → (∀ e ∈ gs, H e.2.1 = none) → Q .non H'
theorem ok_Ways___init__ (d_Ways___init__ : L2.Mv K "__init__" "Ways.__init__" (sub 4 0) ["self", "book"]) (B : Bl mg) (C : Co mg) (R : Er K mg)  : FnOk P w K mg base CX0 1 d_Ways___init__.f d_Ways___init__.fd ["self", "book"] (sp_Ways___init__ R.c_Ways) := by
  refine d_Ways___init__.F.ok sc_Ways___init__ (fun vs H Q E h => ?_) (fun cdv A outer s H vs Q E hr h => ?_)
  · obtain ⟨_, _, _, _, rfl, _⟩ := h; rfl
  obtain ⟨x, dx, b, ps, rfl, hx, hb, hD, hl, q⟩ := h
  refine ⟨_, (pss_cons (ps_fld (pv 0) pe_dnewK rfl) (pss_cons (ps_fld (pv 0) pe_dnewK rfl) (pss_one (ps_for PassesOwn.never rfl (pi_list (pv 1)) (pg_tup rfl (pgs_cons (pg_name (i := 2) sc_Ways___init__.nd rfl (Or.inl rfl)) (pgs_cons (pg_name (i := 3) sc_Ways___init__.nd rfl (Or.inl rfl)) (pgs_cons (pg_name (i := 4) sc_Ways___init__.nd rfl (Or.inl rfl)) pgs_nil)))) (pss_cons (ps_for PassesOwn.never rfl (pi_tup (pe_tup (pa_cons (pv 2) (pa_cons (pv 3) pa_nil)))) (pg_name (i := 5) sc_Ways___init__.nd rfl (Or.inl rfl)) (pss_cons (ps_expr (pe_dsetdef (pe_fld (pv 0) rfl) (pv 5) (pe_lst pa_nil) ⟨rfl, rfl, rfl, rfl⟩)) (pss_one (ps_expr (pe_dsetdef (pe_fld (pv 0) rfl) (pv 5) pe_int ⟨rfl, rfl, rfl, rfl⟩))))) (pss_cons (ps_expr (pe_bm PySem.F.plainAttrs_list PySem.F.slot_list_append PySem.F.type_list_append mt_append (pe_dget (hu1 hr.units) (pe_fld (pv 0) rfl) (pv 2) (fun _ _ => rfl)) (pa_cons (pv 3) pa_nil))) (pss_one (ps_dput (hu1 hr.units) (pe_fld (pv 0) rfl) (pv 3) (pe_op op_add (pe_dget (hu1 hr.units) (pe_fld (pv 0) rfl) (pv 3) (fun _ _ => rfl)) pe_int) rfl)))))))), ?_⟩
  refine fun dc hdc => ?_
  have h1 := at_upd (u := .dK []) hx hdc
  refine ⟨_, rfl, x, _, dx, _, rfl, h1, R.cl_Ways, R.na_Ways_creditors, (by show 0 < 1000; decide), ?_⟩
  have ndx : dc ≠ x := fun z => by rw [z, hx] at hdc; cases hdc
  have h2 : upd (upd H dc (.dK [])) x (.ins R.c_Ways dx (putF "creditors" (.ref dc) [])) x = some (.ins R.c_Ways dx [("creditors", .ref dc)]) := upd_same
  have kc : upd (upd H dc (.dK [])) x (.ins R.c_Ways dx (putF "creditors" (.ref dc) [])) dc = some (.dK []) := upd_oth upd_same ndx
  have fr2 : ∀ b o, b ≠ x → H b = some o → upd (upd H dc (.dK [])) x (.ins R.c_Ways dx (putF "creditors" (.ref dc) [])) b = some o := fun b o nb hb => upd_oth (at_upd hb hdc) nb
  generalize upd (upd H dc (.dK [])) x (.ins R.c_Ways dx (putF "creditors" (.ref dc) [])) = H2 at h2 kc fr2
  refine fun dO hdO => ?_
  have h3 := at_upd (u := .dK []) h2 hdO
  refine ⟨_, rfl, x, _, dx, _, rfl, h3, R.cl_Ways, R.na_Ways_owers, (by show 1 < 1000; decide), ?_⟩
  have nox : dO ≠ x := fun z => by rw [z, h2] at hdO; cases hdO
  have nco : dc ≠ dO := fun z => by rw [← z, kc] at hdO; cases hdO
  have fo : H dO = none := by
    cases c : H dO with
    | none => rfl
    | some o => rw [fr2 dO o nox c] at hdO; cases hdO
  have i0 : IInv R.c_Ways H (upd (upd H2 dO (.dK [])) x (.ins R.c_Ways dx (putF "owers" (.ref dO) [("creditors", .ref dc)]))) x dc dO [] (2 * 0) 0 :=
    ⟨⟨⟨dx, upd_same⟩, upd_oth (at_upd kc hdO) ndx, upd_oth upd_same nox, nco, (fun e he => nomatch he), List.nodup_nil, List.nodup_nil, (fun e he => nomatch he), ⟨Nat.zero_le _, (fun e he => nomatch he)⟩⟩, fun b o nb hb => upd_oth (at_upd (fr2 b o nb hb) hdO) nb, (fun e he => nomatch he), Nat.zero_le _, (fun e he => nomatch he)⟩
  generalize upd (upd H2 dO (.dK [])) x (.ins R.c_Ways dx (putF "owers" (.ref dO) [("creditors", .ref dc)])) = H3 at i0
  have nbx : b ≠ x := fun z => by rw [z, hx] at hb; cases hb
  refine ⟨_, rfl, b, rfl, ⟨_, .inl (.inl (i0.fr b _ nbx hb))⟩, ?_⟩
  refine for_list (K := K) (a := b) (xs := ps.map rd) (fun i σ H' => (∃ gs : List GE, IInv R.c_Ways H H' x dc dO gs (2 * i) i ∧ gs.map gv = bld ((vD ps).take i)) ∧ ∃ v2 v3 v4 v5, σ = [some (.ref x), some (.ref b), v2, v3, v4, v5]) ⟨⟨[], i0, rfl⟩, none, none, none, none, rfl⟩ (fun i σ H' _ z => by obtain ⟨⟨gs, iv, _⟩, _⟩ := z; exact .inl (.inl (iv.fr b _ nbx hb))) (fun i y0 σ H' hy0 z => ?_) (fun σ H' z => ?_)
  · obtain ⟨⟨gs, iv, eg⟩, v2, v3, v4, v5, rfl⟩ := z
    rw [List.getElem?_map] at hy0
    obtain ⟨y, hy, rfl⟩ := Option.map_eq_some_iff.mp hy0
    have ntx : y.1 ≠ x := fun z => by have := hD y (List.mem_of_getElem? hy); rw [z, hx] at this; cases this
    have ky := iv.fr _ _ ntx (hD y (List.mem_of_getElem? hy))
    have il : i < ps.length := (List.getElem?_eq_some_iff.mp hy).1
    have tkk : bld ((vD ps).take (i + 1)) = bldF (gs.map gv) y.2 := by rw [vD_take ps i hy, bld_snoc, eg]
    refine ⟨y.1, _, rfl, .inl (.inl ky), rfl, _, _, rfl, _, _, rfl, _, _, rfl, rfl, ?_⟩
    refine ⟨_, rfl, _, rfl, by walk_at "sz", fun t2 ht2 => ⟨t2, rfl, ⟨_, .inl (.inl upd_same)⟩, ?_⟩⟩
    have sT := same_upd (u := .tup [V.str y.2.1, V.str y.2.2.1]) ht2
    have iv1 := iv.same sT
    have kt : upd H' t2 (.tup [V.str y.2.1, V.str y.2.2.1]) t2 = some (.tup [V.str y.2.1, V.str y.2.2.1]) := upd_same
    generalize upd H' t2 (.tup [V.str y.2.1, V.str y.2.2.1]) = H4 at iv1 kt
    refine for_tup (K := K) (a := t2) (xs := [V.str y.2.1, V.str y.2.2.1]) (fun j σ H5 => (∃ gs2 : List GE, IInv R.c_Ways H H5 x dc dO gs2 (2 * i + j) i ∧ gs2.map gv = (if j = 0 then gs.map gv else if j = 1 then addN (gs.map gv) y.2.1 else addN (addN (gs.map gv) y.2.1) y.2.2.1)) ∧ H5 t2 = some (.tup [V.str y.2.1, V.str y.2.2.1]) ∧ ∃ v5, σ = [some (.ref x), some (.ref b), some (.str y.2.1), some (.str y.2.2.1), some (.int y.2.2.2), v5]) ⟨⟨gs, iv1, rfl⟩, kt, _, rfl⟩ (fun j σ H5 _ z => .inl (.inl z.2.1)) (fun j w0 σ H5 hj z => ?_) (fun σ H5 z => ?_)
    · obtain ⟨⟨gs2, iv2, eg2⟩, kt2, v5, rfl⟩ := z
      have lj : j < 2 := (List.getElem?_eq_some_iff.mp hj).1
      obtain ⟨n, rfl, en⟩ : ∃ n : Str, w0 = V.str n ∧ (if j + 1 = 0 then gs.map gv else if j + 1 = 1 then addN (gs.map gv) y.2.1 else addN (addN (gs.map gv) y.2.1) y.2.2.1) = addN (gs2.map gv) n := by
        rcases (show j = 0 ∨ j = 1 by omega) with rfl | rfl
        · exact ⟨y.2.1, (Option.some.inj hj).symm, by rw [eg2]; rfl⟩
        · exact ⟨y.2.2.1, (Option.some.inj hj).symm, by rw [eg2]; rfl⟩
      obtain ⟨dx2, hx2⟩ := iv2.wy.ins
      have lc : (kvC gs2).length ≤ 2000 := by have := iv2.wy.ln.1; unfold kvC; rw [List.length_map]; exact this
      have lo : (kvO gs2 (indeg gs2)).length ≤ 2000 := by have := iv2.wy.ln.1; unfold kvO; rw [List.length_map]; exact this
      rw [en]
      have ntc : t2 ≠ dc := fun z => by rw [z, iv2.wy.cr] at kt2; cases kt2
      have nto : t2 ≠ dO := fun z => by rw [z, iv2.wy.ow] at kt2; cases kt2
      by_cases m : n ∈ gs2.map (·.1)
      · obtain ⟨e, he, ee⟩ := List.mem_map.mp m
        have ee : e.1 = n := ee
        have v1 : valV (kvC gs2) (Sum.inr n) = some (.ref e.2.1) := by rw [← ee]; exact val_map (α := GE) (fun e => e.1) (fun e => V.ref e.2.1) iv2.wy.nd he
        have v2 : valV (kvO gs2 (indeg gs2)) (Sum.inr n) = some (.int (indeg gs2 n)) := kvO_val iv2.wy.nd m
        refine ⟨_, rfl, x, _, dx2, _, _, rfl, hx2, R.cl_Ways, R.na_Ways_creditors, rfl, dc, rfl, .inl ⟨_, .inl iv2.wy.cr⟩, _, rfl, by walk_at "sz", fun l0 hl0 => ⟨_, Sum.inr n, at_upd iv2.wy.cr hl0, rfl, szLt (by omega), fun v hv => ?_, fun hv => absurd (v1.symm.trans hv) (fun z => nomatch z)⟩⟩
        have s3 := same_upd (u := .lst []) hl0
        refine ⟨_, rfl, x, _, dx2, _, _, rfl, (s3 _ _ hx2), R.cl_Ways, R.na_Ways_owers, rfl, dO, rfl, .inl ⟨_, .inl (s3 _ _ iv2.wy.ow)⟩, _, rfl, ⟨_, Sum.inr n, s3 _ _ iv2.wy.ow, rfl, szLt (by omega), fun v hv => ?_, fun hv => absurd (v2.symm.trans hv) (fun z => nomatch z)⟩⟩
        exact ⟨⟨gs2, (iv2.same s3).more (by omega) (Nat.le_refl _), gv_old m⟩, s3 _ _ kt2, _, rfl⟩
      · have v1 : valV (kvC gs2) (Sum.inr n) = none := val_not (α := GE) (fun e => e.1) (fun e => V.ref e.2.1) m
        have v2 : valV (kvO gs2 (indeg gs2)) (Sum.inr n) = none := val_not (α := GE) (fun e => e.1) (fun e => V.int (indeg gs2 e.1)) m
        refine ⟨_, rfl, x, _, dx2, _, _, rfl, hx2, R.cl_Ways, R.na_Ways_creditors, rfl, dc, rfl, .inl ⟨_, .inl iv2.wy.cr⟩, _, rfl, by walk_at "sz", fun l0 hl0 => ⟨_, Sum.inr n, at_upd iv2.wy.cr hl0, rfl, szLt (by omega), fun v hv => absurd (v1.symm.trans hv) (fun z => nomatch z), fun hv => ?_⟩⟩
        have hx3 := upd_oth (u := .dK (kvC gs2 ++ [(Sum.inr n, .ref l0)])) (at_upd (u := .lst []) hx2 hl0) iv2.wy.xd.1
        have ko3 := upd_oth (u := .dK (kvC gs2 ++ [(Sum.inr n, .ref l0)])) (at_upd (u := .lst []) iv2.wy.ow hl0) iv2.wy.ne.symm
        refine ⟨_, rfl, x, _, dx2, _, _, rfl, hx3, R.cl_Ways, R.na_Ways_owers, rfl, dO, rfl, .inl ⟨_, .inl ko3⟩, _, rfl, ⟨_, Sum.inr n, ko3, rfl, szLt (by omega), fun v hv => absurd (v2.symm.trans hv) (fun z => nomatch z), fun hv => ?_⟩⟩
        exact ⟨⟨_, iv2.add hdc fo ⟨_, hx⟩ m hl0 (by omega), gv_add m⟩, upd_oth (upd_oth (at_upd kt2 hl0) ntc) nto, _, rfl⟩
    · obtain ⟨⟨gs2, iv2, eg2⟩, kt2, v5, rfl⟩ := z
      have eg2 : gs2.map gv = addN (addN (gs.map gv) y.2.1) y.2.2.1 := eg2
      have iv2 : IInv R.c_Ways H H5 x dc dO gs2 (2 * i + 2) i := iv2
      have m1 : y.2.1 ∈ gs2.map (·.1) := by rw [← gv_names, eg2]; exact (addN_mem _ _).2 _ (addN_mem _ _).1
      have m2 : y.2.2.1 ∈ gs2.map (·.1) := by rw [← gv_names, eg2]; exact (addN_mem _ _).1
      obtain ⟨e, he, ee⟩ := List.mem_map.mp m1
      have ee : e.1 = y.2.1 := ee
      obtain ⟨dx2, hx2⟩ := iv2.wy.ins
      have gc := iv2.wy.getC he
      rw [ee] at gc
      have kle := iv2.wy.ls e he
      have le2 := iv2.l2 e he
      have d3 := iv2.wy.xd.2.2 e he
      have lo : (kvO gs2 (indeg gs2)).length ≤ 2000 := by have := iv2.wy.ln.1; unfold kvO; rw [List.length_map]; exact this
      refine ⟨_, rfl, x, _, dx2, _, _, rfl, hx2, R.cl_Ways, R.na_Ways_creditors, rfl, _, rfl, dc, _, rfl, gc, .inl ⟨rfl, _, .inl (.inl kle)⟩, _, rfl, e.2.1, _, _, rfl, rfl, kle, by rw [List.length_map]; exact szLt (by omega), ?_⟩
      have hx3 := upd_oth (u := .lst (e.2.2.map V.str ++ [V.str y.2.2.1])) hx2 d3.1.symm
      have ko3 := upd_oth (u := .lst (e.2.2.map V.str ++ [V.str y.2.2.1])) iv2.wy.ow d3.2.2.symm
      refine ⟨_, rfl, x, _, dx2, _, _, rfl, hx3, R.cl_Ways, R.na_Ways_owers, rfl, _, rfl, dO, _, rfl, .inl ⟨_, Sum.inr y.2.2.1, .inl ko3, rfl, (kvO_val iv2.wy.nd m2).symm⟩, _, _, rfl, rfl, ?_⟩
      refine ⟨_, rfl, x, _, dx2, _, _, rfl, hx3, R.cl_Ways, R.na_Ways_owers, rfl, _, rfl, dO, _, rfl, .inl ⟨_, Sum.inr y.2.2.1, ko3, rfl, szLt (by omega), rfl⟩, ?_⟩
      dsimp only
      rw [kvO_put m2, show e.2.2.map V.str ++ [V.str y.2.2.1] = (e.2.2 ++ [y.2.2.1]).map V.str by rw [List.map_append]; rfl]
      refine ⟨⟨_, (iv2.edge fo he m2 (by omega)).more (by omega) (Nat.le_refl _), ?_⟩, _, _, _, _, rfl⟩
      rw [gv_edge iv2.wy.nd he, tkk, eg2, ee]
      rfl
  · obtain ⟨⟨gs, iv, eg⟩, v2, v3, v4, v5, rfl⟩ := z
    rw [List.length_map, ← vD_len, List.take_length] at eg
    exact q _ dc dO gs iv.wy eg iv.fr hdc fo iv.fl
theorem sc_Ways_names : FnScope ["self"] ["self"] (defScope (sub 4 1)) := ⟨rfl, rfl, rfl, by decide +kernel, rfl, by decide +kernel, by decide +kernel⟩
def sp_Ways_names (C : Addr) : Sp := fun vs H Q _ => ∃ (x dc dO : Addr) (gs : List GE), vs = [.ref x] ∧ Ways C H x dc dO gs ∧ gs.length < 64 ∧ ∀ (H' : Hp) (l : Addr) (ms : List Str), Same H H' → H l = none → H' l = some (.lst (ms.map V.str)) → ms.Perm (gs.map (·.1)) → ms.Pairwise (fun a b => keyL a < keyL b) → Q (.ref l) H'
theorem ok_Ways_names (d_Ways_names : L2.Mv K "names" "Ways.names" (sub 4 1) ["self"]) (B : Bl mg) (C : Co mg) (R : Er K mg)  : FnOk P w K mg base CX0 1 d_Ways_names.f d_Ways_names.fd ["self"] (sp_Ways_names R.c_Ways) := by
  refine d_Ways_names.F.ok sc_Ways_names (fun vs H Q E h => ?_) (fun cdv A outer s H vs Q E hr h => ?_)
  · obtain ⟨_, _, _, _, rfl, _⟩ := h; rfl
  obtain ⟨x, dc, dO, gs, rfl, wy, hl, q⟩ := h
  obtain ⟨dx, hx⟩ := wy.ins
  refine ⟨_, (pss_one (ps_ret (pe_callB (call_sortedK rfl) rfl B.b_sorted PyProof.Rows.boot_sorted (pa_cons (pe_fld (pv 0) rfl) pa_nil)))), ?_⟩
  refine ⟨_, rfl, x, _, dx, _, _, rfl, hx, R.cl_Ways, R.na_Ways_creditors, rfl, dc, gs.map (fun e => (e.1, V.ref e.2.1)), rfl, by rw [wy.cr]; unfold kvC; rw [List.map_map]; rfl, by rw [List.length_map]; exact hl, fun l ms hl0 pm pw => ?_⟩
  exact q _ l ms (same_upd hl0) hl0 upd_same (by rw [List.map_map] at pm; exact pm) pw
theorem sc_Ways_is_owed : FnScope ["self", "who"] ["self", "who"] (defScope (sub 4 2)) := ⟨rfl, rfl, rfl, by decide +kernel, rfl, by decide +kernel, by decide +kernel⟩
def sp_Ways_is_owed (C : Addr) : Sp := fun vs H Q _ => ∃ (x dc dO : Addr) (gs : List GE) (n : Str), vs = [.ref x, .str n] ∧ Ways C H x dc dO gs ∧ n ∈ gs.map (·.1) ∧ Q (.bl (decide (0 < indeg gs n))) H
theorem ok_Ways_is_owed (d_Ways_is_owed : L2.Mv K "is_owed" "Ways.is_owed" (sub 4 2) ["self", "who"]) (B : Bl mg) (C : Co mg) (R : Er K mg)  : FnOk P w K mg base CX0 1 d_Ways_is_owed.f d_Ways_is_owed.fd ["self", "who"] (sp_Ways_is_owed R.c_Ways) := by
  refine d_Ways_is_owed.F.ok sc_Ways_is_owed (fun vs H Q E h => ?_) (fun cdv A outer s H vs Q E hr h => ?_)
  · obtain ⟨_, _, _, _, _, rfl, _⟩ := h; rfl
  obtain ⟨x, dc, dO, gs, n, rfl, wy, hn, q⟩ := h
  obtain ⟨dx, hx⟩ := wy.ins
  refine ⟨_, (pss_one (ps_ret (pe_cmpR op_gt (pe_dget (hu1 hr.units) (pe_fld (pv 0) rfl) (pv 1) (fun _ _ => rfl)) pe_int (nomark _)))), ?_⟩
  refine ⟨_, rfl, x, _, dx, _, _, rfl, hx, R.cl_Ways, R.na_Ways_owers, rfl, _, rfl, dO, _, rfl, wy.getO hn, _, _, rfl, rfl, q⟩
theorem sc_Ways_take_off : FnScope ["self", "debtor", "creditor"] ["self", "debtor", "creditor"] (defScope (sub 4 3)) := ⟨rfl, rfl, rfl, by decide +kernel, rfl, by decide +kernel, by decide +kernel⟩
def sp_Ways_take_off (C : Addr) : Sp := fun vs H Q _ => ∃ (x dc dO : Addr) (gs : List GE) (d c : Str) (j : Nat), vs = [.ref x, .str d, .str c] ∧ Ways C H x dc dO gs ∧ d ∈ gs.map (·.1) ∧ (outs gs d)[j]? = some c ∧ (∀ i z, i < j → (outs gs d)[i]? = some z → z ≠ c) ∧ ∀ (H' : Hp) (gs' : List GE), Ways C H' x dc dO gs' → gs'.map (·.1) = gs.map (·.1) → gs'.map (·.2.1) = gs.map (·.2.1) → outs gs' = (fun y => if y = d then (outs gs d).eraseIdx j else outs gs y) → (∀ b o, b ∉ gs.map (·.2.1) → b ≠ dO → H b = some o → H' b = some o) → Q .non H'
theorem ok_Ways_take_off (d_Ways_take_off : L2.Mv K "take_off" "Ways.take_off" (sub 4 3) ["self", "debtor", "creditor"]) (B : Bl mg) (C : Co mg) (R : Er K mg)  : FnOk P w K mg base CX0 1 d_Ways_take_off.f d_Ways_take_off.fd ["self", "debtor", "creditor"] (sp_Ways_take_off R.c_Ways) := by
  refine d_Ways_take_off.F.ok sc_Ways_take_off (fun vs H Q E h => ?_) (fun cdv A outer s H vs Q E hr h => ?_)
  · obtain ⟨_, _, _, _, _, _, _, rfl, _⟩ := h; rfl
  obtain ⟨x, dc, dO, gs, d, c, j, rfl, wy, hd, hj, hb, q⟩ := h
  obtain ⟨dx, hx⟩ := wy.ins
  refine ⟨_, (pss_cons (ps_expr (pe_bm PySem.F.plainAttrs_list PySem.F.slot_list_remove PySem.F.type_list_remove mt_remove (pe_dget (hu1 hr.units) (pe_fld (pv 0) rfl) (pv 1) (fun _ _ => rfl)) (pa_cons (pv 2) pa_nil))) (pss_one (ps_dput (hu1 hr.units) (pe_fld (pv 0) rfl) (pv 2) (pe_op op_sub (pe_dget (hu1 hr.units) (pe_fld (pv 0) rfl) (pv 2) (fun _ _ => rfl)) pe_int) rfl))), ?_⟩
  obtain ⟨e, he, rfl⟩ := List.mem_map.mp hd
  rw [outs_of wy.nd he] at hj hb
  have kle := wy.ls e he
  have d3 := wy.xd.2.2 e he
  have m2 : c ∈ gs.map (·.1) := wy.cl e he c (List.mem_of_getElem? hj)
  have lo : (kvO gs (indeg gs)).length ≤ 2000 := by have := wy.ln.1; unfold kvO; rw [List.length_map]; exact this
  refine ⟨_, rfl, x, _, dx, _, _, rfl, hx, R.cl_Ways, R.na_Ways_creditors, rfl, _, rfl, dc, _, rfl, wy.getC he, .inl ⟨rfl, _, .inl (.inl kle)⟩, _, rfl, e.2.1, e.2.2, c, j, rfl, rfl, kle, hj, hb, ?_⟩
  have hx3 := upd_oth (u := .lst ((e.2.2.eraseIdx j).map V.str)) hx d3.1.symm
  have ko3 := upd_oth (u := .lst ((e.2.2.eraseIdx j).map V.str)) wy.ow d3.2.2.symm
  refine ⟨_, rfl, x, _, dx, _, _, rfl, hx3, R.cl_Ways, R.na_Ways_owers, rfl, _, rfl, dO, _, rfl, .inl ⟨_, Sum.inr c, .inl ko3, rfl, (kvO_val wy.nd m2).symm⟩, _, _, rfl, rfl, ?_⟩
  refine ⟨_, rfl, x, _, dx, _, _, rfl, hx3, R.cl_Ways, R.na_Ways_owers, rfl, _, rfl, dO, _, rfl, .inl ⟨_, Sum.inr c, ko3, rfl, szLt (by omega), rfl⟩, ?_⟩
  dsimp only
  rw [kvO_put m2]
  refine q _ _ (wy.rem he hj) (repL_names _ _ _ _) (repL_addr wy.nd he) ?_ (fun b o nb no hb => upd_oth (upd_oth hb fun z => nb (List.mem_map.mpr ⟨e, he, z.symm⟩)) no)
  rw [outs_repL wy.nd (List.mem_map.mpr ⟨e, he, rfl⟩), outs_of wy.nd he]
theorem sc_Ways_leave : FnScope ["self", "debtor", "left", "creditor"] ["self", "debtor"] (defScope (sub 4 4)) := ⟨rfl, rfl, rfl, by decide +kernel, rfl, by decide +kernel, by decide +kernel⟩
def sp_Ways_leave (C : Addr) : Sp := fun vs H Q _ => ∃ (x dc dO : Addr) (gs : List GE) (n : Str), vs = [.ref x, .str n] ∧ Ways C H x dc dO gs ∧ n ∈ gs.map (·.1) ∧ ∀ (H' : Hp) (l : Addr) (gs' : List GE), Ways C H' x dc dO gs' → gs'.map (·.1) = gs.map (·.1) → outs gs' = lvg (outs gs) n → (∀ b o, b ≠ dc → b ≠ dO → H b = some o → H' b = some o) → (∀ e ∈ gs', e.2.1 ∈ gs.map (·.2.1) ∨ H e.2.1 = none) → l ∈ gs.map (·.2.1) → H' l = some (.lst ((outs gs n).map V.str)) → Q (.ref l) H'
theorem ok_Ways_leave (d_Ways_leave : L2.Mv K "leave" "Ways.leave" (sub 4 4) ["self", "debtor"]) (B : Bl mg) (C : Co mg) (R : Er K mg)  : FnOk P w K mg base CX0 1 d_Ways_leave.f d_Ways_leave.fd ["self", "debtor"] (sp_Ways_leave R.c_Ways) := by
  refine d_Ways_leave.F.ok sc_Ways_leave (fun vs H Q E h => ?_) (fun cdv A outer s H vs Q E hr h => ?_)
  · obtain ⟨_, _, _, _, _, rfl, _⟩ := h; rfl
  obtain ⟨x, dc, dO, gs, n, rfl, wy, hn, q⟩ := h
  obtain ⟨dx, hx⟩ := wy.ins
  refine ⟨_, (pss_cons (ps_set (i := 2) sc_Ways_leave.nd rfl (Or.inl rfl) (pe_dget (hu1 hr.units) (pe_fld (pv 0) rfl) (pv 1) (fun _ _ => rfl))) (pss_cons (ps_dput (hu1 hr.units) (pe_fld (pv 0) rfl) (pv 1) (pe_lst pa_nil) rfl) (pss_cons (ps_for PassesOwn.never rfl (pi_list (pv 2)) (pg_name (i := 3) sc_Ways_leave.nd rfl (Or.inl rfl)) (pss_one (ps_dput (hu1 hr.units) (pe_fld (pv 0) rfl) (pv 3) (pe_op op_sub (pe_dget (hu1 hr.units) (pe_fld (pv 0) rfl) (pv 3) (fun _ _ => rfl)) pe_int) rfl))) (pss_one (ps_ret (pv 2)))))), ?_⟩
  obtain ⟨e, he, rfl⟩ := List.mem_map.mp hn
  refine ⟨_, rfl, x, _, dx, _, _, rfl, hx, R.cl_Ways, R.na_Ways_creditors, rfl, _, rfl, dc, _, rfl, wy.getC he, ?_⟩
  refine ⟨by walk_at "sz", fun l0 hl0 => ?_⟩
  have s1 := same_upd (u := .lst []) hl0
  have lk : (kvC gs).length ≤ 2000 := by have := wy.ln.1; unfold kvC; rw [List.length_map]; exact this
  refine ⟨_, rfl, x, _, dx, _, _, rfl, (s1 _ _ hx), R.cl_Ways, R.na_Ways_creditors, rfl, _, rfl, dc, _, rfl, .inl ⟨_, Sum.inr e.1, s1 _ _ wy.cr, rfl, szLt (by omega), rfl⟩, ?_⟩
  rw [kvC_repL (l := []) hn]
  have nx : x ≠ dc := fun z => by have := wy.cr; rw [← z, hx] at this; cases this
  have nl : l0 ≠ dc := fun z => by rw [z, wy.cr] at hl0; cases hl0
  have h2 : ∀ b o, b ≠ dc → H b = some o → upd (upd H l0 (.lst [])) dc (.dK (kvC (repL gs e.1 l0 []))) b = some o := fun b o nb hb => upd_oth (s1 _ _ hb) nb
  have k0 : upd (upd H l0 (.lst [])) dc (.dK (kvC (repL gs e.1 l0 []))) l0 = some (.lst []) := upd_oth upd_same nl
  have kc : upd (upd H l0 (.lst [])) dc (.dK (kvC (repL gs e.1 l0 []))) dc = some (.dK (kvC (repL gs e.1 l0 []))) := upd_same
  generalize upd (upd H l0 (.lst [])) dc (.dK (kvC (repL gs e.1 l0 []))) = H2 at h2 k0 kc
  have ndl : ∀ {b : Addr} {vs : List V}, H b = some (.lst vs) → b ≠ dc := fun {b vs} hb z => by rw [z, wy.cr] at hb; cases hb
  have nol : ∀ {b : Addr} {vs : List V} {H' : Hp}, H' dO = some (.dK (kvO gs (indeg gs))) → H' b = some (.lst vs) → b ≠ dO := fun {b vs H'} h1 hb z => by rw [z, h1] at hb; cases hb
  have kO := h2 _ _ wy.ne.symm wy.ow
  have kle := h2 _ _ (ndl (wy.ls e he)) (wy.ls e he)
  refine ⟨_, rfl, e.2.1, rfl, ⟨_, .inl (.inl kle)⟩, ?_⟩
  refine for_list (K := K) (a := e.2.1) (xs := e.2.2.map V.str) (fun i σ H' => (∀ b o, b ≠ dO → H2 b = some o → H' b = some o) ∧ H' dO = some (.dK (kvO gs fun z => indeg gs z - ((e.2.2.take i).count z : Int))) ∧ ∃ v3, σ = [some (.ref x), some (.str e.1), some (.ref e.2.1), v3]) ⟨fun b o _ hb => hb, ?_, none, rfl⟩ (fun i σ H' _ z => .inl (.inl (z.1 _ _ (nol kO kle) kle))) (fun i y σ H' hy z => ?_) (fun σ H' z => ?_)
  · rw [kO]
    have : (fun z => indeg gs z - ((e.2.2.take 0).count z : Int)) = indeg gs := funext fun z => by rw [List.take_zero]; simp
    rw [this]
  · obtain ⟨fr, ko, v3, rfl⟩ := z
    rw [List.getElem?_map] at hy
    obtain ⟨c, hc, rfl⟩ := Option.map_eq_some_iff.mp hy
    have cg : c ∈ gs.map (·.1) := wy.cl e he c (List.mem_of_getElem? hc)
    have hx' := fr _ _ (fun z => by have := wy.ow; rw [← z, hx] at this; cases this) (h2 _ _ nx hx)
    have lo : (kvO gs fun z => indeg gs z - ((e.2.2.take i).count z : Int)).length ≤ 2000 := by have := wy.ln.1; unfold kvO; rw [List.length_map]; exact this
    refine ⟨_, rfl, x, _, dx, _, _, rfl, hx', R.cl_Ways, R.na_Ways_owers, rfl, _, rfl, dO, _, rfl, .inl ⟨_, Sum.inr c, .inl ko, rfl, (kvO_val wy.nd cg).symm⟩, _, _, rfl, rfl, ?_⟩
    refine ⟨_, rfl, x, _, dx, _, _, rfl, hx', R.cl_Ways, R.na_Ways_owers, rfl, _, rfl, dO, _, rfl, .inl ⟨_, Sum.inr c, ko, rfl, szLt (by omega), rfl⟩, ?_⟩
    refine ⟨fun b o nb hb => upd_oth (fr b o nb hb) nb, ?_, _, rfl⟩
    rw [upd_same]
    dsimp only
    rw [kvO_put cg]
    have : (fun z => if z = c then indeg gs c - ((e.2.2.take i).count c : Int) - 1 else indeg gs z - ((e.2.2.take i).count z : Int)) = fun z => indeg gs z - ((e.2.2.take (i + 1)).count z : Int) := funext fun z => by
      rw [take_count hc]
      by_cases d : z = c
      · rw [if_pos d, if_pos d, d]; omega
      · rw [if_neg d, if_neg d]; omega
    rw [this]
  · obtain ⟨fr, ko, v3, rfl⟩ := z
    rw [List.length_map, List.take_length] at ko
    have nxo : x ≠ dO := fun z => by have := wy.ow; rw [← z, hx] at this; cases this
    refine ⟨_, rfl, q _ _ (repL gs e.1 l0 []) ⟨⟨dx, fr _ _ nxo (h2 _ _ nx hx)⟩, fr _ _ wy.ne kc, ?_, wy.ne, fun f hf => ?_, by rw [repL_names]; exact wy.nd, ?_, fun f hf y hy => ?_, ⟨by unfold repL; rw [List.length_map]; exact wy.ln.1, fun f hf => ?_⟩⟩ (repL_names _ _ _ _) ?_ (fun b o nc no hb => fr b o no (h2 b o nc hb)) (fun f hf => (mem_repL hf).elim (fun z => .inl (List.mem_map.mpr ⟨f, z.1, rfl⟩)) (fun z => .inr (by obtain ⟨g, _, _, rfl⟩ := z; exact hl0))) (List.mem_map.mpr ⟨e, he, rfl⟩) (by rw [outs_of wy.nd he]; exact fr _ _ (nol kO kle) kle)⟩
    · rw [kvO_names (repL_names gs e.1 l0 []), ko]
      have : (fun z => indeg gs z - (e.2.2.count z : Int)) = indeg (repL gs e.1 l0 []) := funext fun z => by rw [indeg_repL wy.nd he]; simp
      rw [this]
    · rcases mem_repL hf with ⟨hf, ne⟩ | ⟨g, hg, ge, rfl⟩
      · have := wy.ls f hf
        exact fr _ _ (nol kO (h2 _ _ (ndl this) this)) (h2 _ _ (ndl this) this)
      · exact fr _ _ (nol kO k0) k0
    · exact repL_ad wy.nd wy.ad fun f hf z => by have := wy.ls f hf; rw [z, hl0] at this; cases this
    · rw [repL_names]
      rcases mem_repL hf with ⟨hf, _⟩ | ⟨g, hg, ge, rfl⟩
      · exact wy.cl f hf y hy
      · cases hy
    · rcases mem_repL hf with ⟨hf, _⟩ | ⟨g, hg, ge, rfl⟩
      · exact wy.ln.2 f hf
      · exact Nat.zero_le _
    · rw [outs_repL wy.nd hn]
      rfl
theorem sc_Ways_last_first : FnScope ["self", "debtor"] ["self", "debtor"] (defScope (sub 4 6)) := ⟨rfl, rfl, rfl, by decide +kernel, rfl, by decide +kernel, by decide +kernel⟩
def sp_Ways_last_first (K : PySem.W.Frag) (C : Addr) : Sp := fun vs H Q _ => ∃ (x dc dO : Addr) (gs : List GE) (n : Str), vs = [.ref x, .str n] ∧ Ways C H x dc dO gs ∧ n ∈ gs.map (·.1) ∧ ∀ (L : Addr), H L = none → Q (.ref L) (upd H L (.lst ((outs gs n).reverse.map V.str)))
theorem ok_Ways_last_first (d_Ways_last_first : L2.Mv K "last_first" "Ways.last_first" (sub 4 6) ["self", "debtor"]) (B : Bl mg) (C : Co mg) (R : Er K mg)  : FnOk P w K mg base CX0 1 d_Ways_last_first.f d_Ways_last_first.fd ["self", "debtor"] (sp_Ways_last_first K R.c_Ways) := by
  refine d_Ways_last_first.F.ok sc_Ways_last_first (fun vs H Q E h => ?_) (fun cdv A outer s H vs Q E hr h => ?_)
  · obtain ⟨_, _, _, _, _, rfl, _⟩ := h; rfl
  obtain ⟨x, dc, dO, gs, n, rfl, wy, hn, q⟩ := h
  obtain ⟨dx, hx⟩ := wy.ins
  refine ⟨_, (pss_one (ps_ret (pe_lstRev rfl rfl B.b_list rfl B.b_reversed (pe_dget (hu1 hr.units) (pe_fld (pv 0) rfl) (pv 1) (fun _ _ => rfl))))), ?_⟩
  obtain ⟨e, he, rfl⟩ := List.mem_map.mp hn
  refine ⟨_, rfl, x, _, dx, _, _, rfl, hx, R.cl_Ways, R.na_Ways_creditors, rfl, _, rfl, dc, _, rfl, wy.getC he, e.2.1, _, rfl, .inl (.inl (wy.ls e he)), fun L hL => ?_⟩
  rw [← List.map_reverse, ← outs_of wy.nd he]
  exact q L hL
theorem sc_Ways_round_from : FnScope ["self", "start", "path", "untried", "creditor"] ["self", "start"] (defScope (sub 4 5)) := ⟨rfl, rfl, rfl, by decide +kernel, rfl, by decide +kernel, by decide +kernel⟩
def sp_Ways_round_from (K : PySem.W.Frag) (C : Addr) : Sp := fun vs H Q _ => ∃ (x dc dO : Addr) (gs : List GE) (n : Str), vs = [.ref x, .str n] ∧ Ways C H x dc dO gs ∧ n ∈ gs.map (·.1) ∧ ∀ (H' : Hp) (l : Addr) (r : List Str), Same H H' → H l = none → H' l = some (.lst (r.map V.str)) → RF (outs gs) n r → Q (.ref l) H'
theorem ok_Ways_round_from (d_Ways_round_from : L2.Mv K "round_from" "Ways.round_from" (sub 4 5) ["self", "start"]) (B : Bl mg) (C : Co mg) (R : Er K mg) (d_Ways_is_owed : L2.Mv K "is_owed" "Ways.is_owed" (sub 4 2) ["self", "who"]) (G_Ways_is_owed : FnOk P w K mg base CX0 1 d_Ways_is_owed.f d_Ways_is_owed.fd ["self", "who"] (sp_Ways_is_owed R.c_Ways)) (d_Ways_last_first : L2.Mv K "last_first" "Ways.last_first" (sub 4 6) ["self", "debtor"]) (G_Ways_last_first : FnOk P w K mg base CX0 1 d_Ways_last_first.f d_Ways_last_first.fd ["self", "debtor"] (sp_Ways_last_first K R.c_Ways)) (M_Ways_is_owed : Meth K R.c_Ways "is_owed" d_Ways_is_owed.f) (M_Ways_last_first : Meth K R.c_Ways "last_first" d_Ways_last_first.f) : FnOk P w K mg base CX0 2 d_Ways_round_from.f d_Ways_round_from.fd ["self", "start"] (sp_Ways_round_from K R.c_Ways) := by
  refine d_Ways_round_from.F.ok sc_Ways_round_from (fun vs H Q E h => ?_) (fun cdv A outer s H vs Q E hr h => ?_)
  · obtain ⟨_, _, _, _, _, rfl, _⟩ := h; rfl
  obtain ⟨x, dc, dO, gs, n, rfl, wy, hn, q⟩ := h
  obtain ⟨dx, hx⟩ := wy.ins
  refine ⟨_, (pss_cons (ps_if (pt_not (pt_val (pe_meth (pv 0) R.cl_Ways M_Ways_is_owed G_Ways_is_owed (hr.mono (by decide)) d_Ways_is_owed.b .nil pass0 (pa_cons (pv 1) pa_nil)) (fun _ => rfl))) (pss_one (ps_ret (pe_lst pa_nil))) pss_nil) (pss_cons (ps_set (i := 2) sc_Ways_round_from.nd rfl (Or.inl rfl) (pe_lst (pa_cons (pv 1) pa_nil))) (pss_cons (ps_set (i := 3) sc_Ways_round_from.nd rfl (Or.inl rfl) (pe_disp (pps_cons (pv 1) (pe_meth (pv 0) R.cl_Ways M_Ways_last_first G_Ways_last_first (hr.mono (by decide)) d_Ways_last_first.b .nil pass0 (pa_cons (pv 1) pa_nil)) pps_nil) rfl rfl (by intro z; cases z) (by decide))) (pss_cons (ps_while PassesOwn.never (pt_cmpR op_gt (pe_callB call_len_seq rfl B.b_len PySem.boot_len (pa_cons (pv 2) pa_nil)) pe_int (nomark _)) (pss_cons (ps_if (pt_cmpR (op_eqD hr.units) (pe_dget (hu1 hr.units) (pv 3) (pe_ix ix_list (pv 2) (pe_un un_neg pe_int) (fun _ _ => rfl)) (fun _ _ => rfl)) (pe_lst pa_nil) (nomark _)) (pss_cons (ps_expr (pe_bm0 PySem.F.plainAttrs_list PySem.F.slot_list_pop PySem.F.type_list_pop mt_pop (pv 2))) (pss_one ps_continue)) pss_nil) (pss_cons (ps_set (i := 4) sc_Ways_round_from.nd rfl (Or.inl rfl) (pe_bm0 PySem.F.plainAttrs_list PySem.F.slot_list_pop PySem.F.type_list_pop mt_pop (pe_dget (hu1 hr.units) (pv 3) (pe_ix ix_list (pv 2) (pe_un un_neg pe_int) (fun _ _ => rfl)) (fun _ _ => rfl)))) (pss_cons (ps_if (pt_cmpR op_eq (pv 4) (pv 1) (nomark _)) (pss_one (ps_ret (pv 2))) pss_nil) (pss_one (ps_if (pt_cmp (pc_dnotin (hu1 hr.units) (pv 4) (pv 3))) (pss_cons (ps_dput (hu1 hr.units) (pv 3) (pv 4) (pe_meth (pv 0) R.cl_Ways M_Ways_last_first G_Ways_last_first (hr.mono (by decide)) d_Ways_last_first.b .nil pass0 (pa_cons (pv 4) pa_nil)) rfl) (pss_one (ps_expr (pe_bm PySem.F.plainAttrs_list PySem.F.slot_list_append PySem.F.type_list_append mt_append (pv 2) (pa_cons (pv 4) pa_nil))))) pss_nil)))))) (pss_one (ps_ret (pe_lst pa_nil))))))), ?_⟩
  refine ⟨_, rfl, x, dx, _, rfl, hx, rfl, _, rfl, x, dc, dO, gs, n, rfl, wy, hn, _, rfl, ?_⟩
  refine ite2 (fun c => ?_) (fun c => ?_)
  · refine ⟨by walk_at "sz", fun l hl => ?_⟩
    refine q _ l [] (same_upd hl) hl upd_same (.inl ⟨fun y hy => ?_, rfl⟩)
    have : 0 < indeg gs n := (indeg_pos wy.nd).mpr ⟨y, hy⟩
    rw [decide_eq_true this] at c
    cases c
  have ow : ∃ y, n ∈ outs gs y := (indeg_pos wy.nd).mp (by simpa using c)
  refine ⟨_, rfl, by walk_at "sz", fun p hp => ?_⟩
  have s1 := same_upd (u := .lst [V.str n]) hp
  refine fun u hu => ?_
  have s2 := same_upd' (u := .dK []) s1 hu
  refine ⟨_, rfl, _, rfl, x, dx, _, rfl, s2 _ _ hx, rfl, _, rfl, x, dc, dO, gs, n, rfl, wy.same s2, hn, fun L hL => ?_⟩
  have fp : H p = none := hp
  have fu : H u = none := s1.free hu
  have fL : H L = none := s2.free hL
  have nup : u ≠ p := (ne_of_none (H := upd H p (.lst [V.str n])) upd_same hu).symm
  have nLp : L ≠ p := (ne_of_none (H := upd (upd H p (.lst [V.str n])) u (.dK [])) (at_upd upd_same hu) hL).symm
  have nLu : L ≠ u := (ne_of_none (H := upd (upd H p (.lst [V.str n])) u (.dK [])) upd_same hL).symm
  have ons : ∀ y ∈ gs.map (·.1), ∀ z ∈ outs gs y, z ∈ gs.map (·.1) := fun y hy z hz => by
    obtain ⟨e, he, rfl⟩ := List.mem_map.mp hy
    rw [outs_of wy.nd he] at hz
    exact wy.cl e he z hz
  refine ⟨at_upd upd_same hL, [(Sum.inr n, .ref L)], rfl, (by show 1 ≤ 15; decide), ?_⟩
  have t0 : Tr H (upd (upd (upd (upd H p (.lst [V.str n])) u (.dK [])) L (.lst ((outs gs n).reverse.map V.str))) u (.dK (mergeK [] [(Sum.inr n, .ref L)]))) p u [n] [(n, L, outs gs n)] gs := by
    refine ⟨same_updN (s2.trans (same_upd hL)) fu, upd_oth (at_upd (at_upd upd_same hu) hL) nup.symm, upd_same, fun e he => ?_, by simp, by simp, fun e he => ?_, fun e he => ?_, by simp, fun z hz => hz⟩
    · rw [List.mem_singleton.mp he]
      exact ⟨upd_oth upd_same nLu, fL, nLp⟩
    · rw [List.mem_singleton.mp he]; exact hn
    · rw [List.mem_singleton.mp he]; exact ons n hn
  generalize upd (upd (upd (upd H p (.lst [V.str n])) u (.dK [])) L (.lst ((outs gs n).reverse.map V.str))) u (.dK (mergeK [] [(Sum.inr n, .ref L)])) = H0 at t0
  refine ⟨fun m σ' H' => RInv H x p u n gs m σ' H', ⟨_, [n], [(n, L, outs gs n)], none, rfl, rfl, t0, fun r w => ?_⟩, ?_⟩
  · have e := unF_new (us := []) (c := n) (L := L) (o := outs gs n) (fun z => nomatch z)
    have e2 : unF [(n, L, outs gs n)] = stu (fun _ => none) n (outs gs n) := e
    rw [e2] at w
    exact w
  rintro m _ H1 ⟨rp, us, v4, rfl, rfl, tr, cont⟩
  refine ⟨_, rfl, p, _, rfl, .inl (.inl (.inl tr.kp)), _, _, rfl, rfl, _, rfl, ?_⟩
  refine ite2 (fun c => ?_) (fun c => ?_)
  · obtain ⟨y, rest, rfl⟩ : ∃ y rest, rp = y :: rest := by
      cases rp with
      | nil => exact absurd (of_decide_eq_true c) (by simp)
      | cons y r => exact ⟨y, r, rfl⟩
    obtain ⟨e, he, rfl⟩ := List.mem_map.mp (tr.rpu y List.mem_cons_self)
    refine ⟨fun σ' H' => ∃ m', m' < 2 * missG gs (us.map (·.1)) + 2 * lens us + (e.1 :: rest).length ∧ RInv H x p u n gs m' σ' H', fun _ _ z => z, ?_⟩
    have kp := tr.kp
    rw [rvm] at kp
    have hE := unF_some tr.nd he
    refine ⟨_, rfl, _, rfl, _, rfl, p, _, _, _, rfl, rfl, .inl (.inl kp), atI_last _ _, u, _, rfl, tr.get he, by walk_at "sz", fun l0 hl0 => ?_⟩
    have s3 := same_upd (u := .lst []) hl0
    have tr1 := tr.same s3
    have k0 : upd H1 l0 (.lst []) l0 = some (.lst []) := upd_same
    generalize upd H1 l0 (.lst []) = H2 at tr1 k0
    have kp1 := tr1.kp
    rw [rvm] at kp1
    have ke := (tr1.kl e he).1
    have ln1 := tr1.len
    cases h2 : e.2.2 with
    | nil =>
      rw [h2] at ke hE
      refine ⟨e.2.1, l0, _, _, rfl, rfl, .inl (.inl ke), .inl (.inl k0), .inr ⟨rfl, fun _ => true, fun j hj => absurd hj (Nat.not_lt_zero _), _, rfl, iteT ?_⟩⟩
      refine ⟨_, rfl, .inl ⟨rfl, _, .inl (.inl kp1)⟩, p, _, _, rfl, rfl, kp1, List.getElem?_concat_length', ?_⟩
      rw [List.dropLast_concat]
      exact ⟨_, by rw [List.length_cons]; exact Nat.lt_succ_self _, rest, us, _, rfl, rfl, tr1.back fp, fun r w => cont r (.back hE w)⟩
    | cons c2 l =>
      rw [h2] at ke hE
      rw [rvm] at ke
      refine ⟨e.2.1, l0, _, _, rfl, rfl, .inl (.inl ke), .inl (.inl k0), .inl ⟨by rw [List.length_append]; show ¬ _ + 1 = 0; omega, _, rfl, iteF ?_⟩⟩
      refine ⟨_, rfl, _, rfl, _, rfl, p, _, _, _, rfl, rfl, .inl (.inl kp1), atI_last _ _, u, _, rfl, tr1.get he, .inl ⟨rfl, _, .inl (.inl ke)⟩, e.2.1, _, _, rfl, rfl, ke, List.getElem?_concat_length', ?_⟩
      rw [List.dropLast_concat]
      have tr2 := tr1.pop he h2
      generalize upd H2 e.2.1 (.lst (l.reverse.map V.str)) = H3 at tr2
      have lr := lens_rep tr1.nd he rfl h2
      have nr := repU_names us e.1 l
      have ur := unF_rep (l := l) (List.mem_map.mpr ⟨e, he, rfl⟩ : e.1 ∈ us.map (·.1))
      refine ⟨_, rfl, _, rfl, rfl, _, rfl, ?_⟩
      refine ite2 (fun c3 => ?_) (fun c3 => ?_)
      · have e3 : c2 = n := by simpa using c3
        subst e3
        exact ⟨_, rfl, q _ p _ tr2.sm fp tr2.kp (.inr ⟨ow, cont _ (.ring hE)⟩)⟩
      have n3 : c2 ≠ n := by simpa using c3
      have c2g : c2 ∈ gs.map (·.1) := tr1.el e he c2 (by rw [h2]; exact List.mem_cons_self)
      by_cases m : c2 ∈ us.map (·.1)
      · obtain ⟨f, hf, ef⟩ := List.mem_map.mp m
        have m2 : c2 ∈ (repU us e.1 l).map (·.1) := by rw [nr]; exact m
        obtain ⟨f2, hf2, ef2⟩ := List.mem_map.mp m2
        have g2 := tr2.get hf2
        have ef2 : f2.1 = c2 := ef2
        rw [ef2] at g2
        refine ⟨_, rfl, _, rfl, u, _, rfl, g2, _, rfl, iteF ?_⟩
        refine ⟨_, ?_, e.1 :: rest, repU us e.1 l, _, rfl, rfl, tr2, fun r w => cont r (.old hE n3 ?_ ?_)⟩
        · rw [nr]; omega
        · exact fun z => unF_none.mp z m
        · rw [ur] at w; exact w
      · have m2 : c2 ∉ (repU us e.1 l).map (·.1) := by rw [nr]; exact m
        have nv : valV (kvC (repU us e.1 l)) (Sum.inr c2) = none := val_not (α := GE) (fun e => e.1) (fun e => V.ref e.2.1) m2
        refine ⟨_, rfl, _, rfl, u, none, rfl, .inl ⟨_, Sum.inr c2, .inl tr2.ku, rfl, nv.symm⟩, _, rfl, iteT ?_⟩
        obtain ⟨e2, he2, ee2⟩ := List.mem_map.mp c2g
        have ee2 : e2.1 = c2 := ee2
        have oc : outs gs c2 = e2.2.2 := by rw [← ee2]; exact outs_of wy.nd he2
        have mn := miss_new m wy.nd he2 ee2
        have lg := wy.ln.1
        have lk : (kvC (repU us e.1 l)).length ≤ 2000 := by
          have := tr2.len.1
          unfold kvC
          rw [List.length_map]
          omega
        refine ⟨_, rfl, x, dx, _, rfl, tr2.sm _ _ hx, rfl, _, rfl, x, dc, dO, gs, c2, rfl, wy.same tr2.sm, c2g, fun L2 hL2 => ?_⟩
        have ku2 := at_upd (u := .lst ((outs gs c2).reverse.map V.str)) tr2.ku hL2
        refine ⟨_, rfl, _, rfl, u, _, rfl, .inl ⟨_, Sum.inr c2, ku2, rfl, szLt (by omega), rfl⟩, ?_⟩
        rw [kvC_put (o := outs gs c2) m2]
        have nLp : L2 ≠ p := fun z => by rw [z, tr2.kp] at hL2; cases hL2
        have kp3 : upd (upd H3 L2 (.lst ((outs gs c2).reverse.map V.str))) u (.dK (kvC (repU us e.1 l ++ [(c2, L2, outs gs c2)]))) p = some (.lst ((e.1 :: rest).reverse.map V.str)) := upd_oth (at_upd tr2.kp hL2) tr2.pu.symm
        have lp := tr2.len.2
        refine ⟨_, rfl, .inl ⟨rfl, _, .inl (.inl kp3)⟩, _, rfl, p, _, _, rfl, rfl, kp3, by rw [List.length_map, List.length_reverse]; exact szLt (by omega), ?_⟩
        rw [← rvm]
        refine ⟨_, ?_, c2 :: e.1 :: rest, repU us e.1 l ++ [(c2, L2, outs gs c2)], _, rfl, rfl, tr2.new fp fu hL2 c2g m2 (ons c2 c2g), fun r w => cont r (.new hE n3 (unF_none.mpr m) ?_)⟩
        · rw [lens_new, List.map_append, nr]
          show 2 * missG gs (us.map (·.1) ++ [c2]) + 2 * (lens (repU us e.1 l) + (outs gs c2).length) + (c2 :: e.1 :: rest).length < _
          rw [oc, List.length_cons, List.length_cons]
          omega
        · rw [unF_new m2, ur] at w
          exact w
  · have e0 : rp = [] := by
      cases rp with
      | nil => rfl
      | cons y r => exact absurd (decide_eq_true (by rw [List.length_map, List.length_reverse, List.length_cons]; omega)) c
    subst e0
    refine ⟨by walk_at "sz", fun l hl => ?_⟩
    exact q _ l [] (tr.sm.trans (same_upd hl)) (tr.sm.free hl) upd_same (.inr ⟨ow, cont [] .done⟩)
theorem sc_above_nought : FnScope ["dues"] ["dues"] (defScope (top 8)) := ⟨rfl, rfl, rfl, by decide +kernel, rfl, by decide +kernel, by decide +kernel⟩
def sp_above_nought (K : PySem.W.Frag) : Sp := fun vs H Q _ => ∃ (b : Addr) (ps : List TD), vs = [.ref b] ∧ H b = some (.lst (ps.map rd)) ∧ Tds H ps ∧ ps.length ≤ 900 ∧ ∀ (H' : Hp) (l : Addr), Same H H' → H l = none → H' l = some (.lst ((ps.filter fun p => decide (0 < p.2.2.2)).map rd)) → Q (.ref l) H'
theorem ok_above_nought (d_above_nought : Dv K mg "above_nought" (top 8) ["dues"]) (B : Bl mg) (C : Co mg) (R : Er K mg)  : FnOk P w K mg base CX0 1 d_above_nought.f d_above_nought.fd ["dues"] (sp_above_nought K) := by
  refine d_above_nought.F.ok sc_above_nought (fun vs H Q E h => ?_) (fun cdv A outer s H vs Q E hr h => ?_)
  · obtain ⟨_, _, rfl, _⟩ := h; rfl
  obtain ⟨b, ps, rfl, hb, hD, hl, q⟩ := h
  refine ⟨_, (pss_one (ps_ret (pe_lc (N := ["dues"]) (sc := defScope (top 8)) ⟨by decide +kernel, rfl, rfl, by decide +kernel, by decide +kernel, by decide +kernel, by decide +kernel⟩ rfl rfl rfl (pi_list (pv 0)) (fun _ _ _ _ _ => (pif_one (pt_cmpR op_gt (pe_ix (ix_tupK (K := K) rfl) (pv 0) pe_int (fun _ _ => rfl)) pe_int (nomark _)))) (fun _ _ _ _ _ => (pv 0))))), ?_⟩
  refine ⟨_, rfl, b, rfl, ⟨_, .inl (.inl hb)⟩, ?_⟩
  refine comp_map (fun p : TD => decide (0 < p.2.2.2)) rd (.inl (.inl hb)) (szOk (by omega)) (fun x H' hx sm R R0 h1 h0 => ?_) (fun H' sm l hl' => ?_)
  · have hx' := sm _ _ (hD x hx)
    refine ⟨rfl, _, rfl, x.1, _, _, _, rfl, rfl, .inl (.inl hx'), rfl, _, _, rfl, rfl, _, rfl, ?_⟩
    refine ite2 (fun c => ?_) (fun c => ?_)
    · exact ⟨_, rfl, h1 c _ (Same.refl _)⟩
    · exact h0 (by simpa using c) _ (Same.refl _)
  · exact q _ l (same_upd' sm hl') (sm.free hl') upd_same
theorem sc_cut_out : FnScope ["found", "ways", "left", "pairs", "least", "debtor", "creditor"] ["found", "ways", "left"] (defScope (top 7)) := ⟨rfl, rfl, rfl, by decide +kernel, rfl, by decide +kernel, by decide +kernel⟩
def sp_cut_out (K : PySem.W.Frag) (C : Addr) : Sp := fun vs0 H Q _ => ∃ (f x D dc dO : Addr) (gs : List GE) (r : List Str) (vs : List T3) (A : Str → Str → Int), vs0 = [.ref f, .ref x, .ref D] ∧ H f = some (.lst (r.map V.str)) ∧ Ways C H x dc dO gs ∧ H D = some (.dT (dA vs A)) ∧ r.Nodup ∧ 0 < r.length ∧ r.length ≤ 100 ∧ vs.length ≤ 600 ∧ (∀ a b, (a, b) ∈ prs r → (∃ p ∈ vs, p.1 = a ∧ p.2.1 = b) ∧ b ∈ outs gs a) ∧ (∀ z, (outs gs z).Pairwise klt) ∧ ∀ (H' : Hp) (gs' : List GE) (m : Int), Ways C H' x dc dO gs' → gs'.map (·.1) = gs.map (·.1) → gs'.map (·.2.1) = gs.map (·.2.1) → H' D = some (.dT (dA vs (lowA r m A (prs r)))) → (∀ a b, (a, b) ∈ prs r → m ≤ A a b) → (∃ a b, (a, b) ∈ prs r ∧ A a b = m) → (∀ x y, y ∈ outs gs' x ↔ y ∈ outs gs x ∧ ¬ ((x, y) ∈ prs r ∧ A x y = m)) → (∀ x, (outs gs' x).Pairwise klt) → (∀ b o, b ∉ gs.map (·.2.1) → b ≠ dO → b ≠ D → H b = some o → H' b = some o) → Q .non H'
theorem ok_cut_out (d_cut_out : Dv K mg "cut_out" (top 7) ["found", "ways", "left"]) (B : Bl mg) (C : Co mg) (R : Er K mg) (d_Ways_take_off : L2.Mv K "take_off" "Ways.take_off" (sub 4 3) ["self", "debtor", "creditor"]) (G_Ways_take_off : FnOk P w K mg base CX0 1 d_Ways_take_off.f d_Ways_take_off.fd ["self", "debtor", "creditor"] (sp_Ways_take_off R.c_Ways)) (M_Ways_take_off : Meth K R.c_Ways "take_off" d_Ways_take_off.f) : FnOk P w K mg base CX0 2 d_cut_out.f d_cut_out.fd ["found", "ways", "left"] (sp_cut_out K R.c_Ways) := by
  refine d_cut_out.F.ok sc_cut_out (fun vs H Q E h => ?_) (fun cdv A outer s H vs Q E hr h => ?_)
  · obtain ⟨_, _, _, _, _, _, _, _, _, rfl, _⟩ := h; rfl
  obtain ⟨f, x, D, dc, dO, gs, r, vs, A, rfl, hf, wy, hD, rnd, r0, r100, l63, red, srt, q⟩ := h
  refine ⟨_, (pss_cons (ps_set (i := 3) sc_cut_out.nd rfl (Or.inl rfl) (pe_lstZip rfl rfl B.b_list rfl B.b_zip (pa_cons (pv 0) (pa_cons (pe_op op_cat (pe_slice sl_list (pv 0) (po_some pe_int) po_none) (pe_slice sl_list (pv 0) po_none (po_some pe_int))) pa_nil)))) (pss_cons (ps_set (i := 4) sc_cut_out.nd rfl (Or.inl rfl) (pe_callB (call_min1 rfl) rfl B.b_min PyProof.Rows.boot_min (pa_cons (pe_lc (N := ["found", "ways", "left", "pairs", "least", "debtor", "creditor"]) (sc := defScope (top 7)) ⟨by decide +kernel, rfl, rfl, by decide +kernel, by decide +kernel, by decide +kernel, by decide +kernel⟩ rfl rfl rfl (pi_list (pv 3)) (fun _ _ _ _ _ => pif_nil) (fun _ _ _ _ _ => (pe_dget (hu1 hr.units) (pv 3) (pv 0) (fun _ _ => rfl)))) pa_nil))) (pss_one (ps_for PassesOwn.never rfl (pi_list (pv 3)) (pg_tup rfl (pgs_cons (pg_name (i := 5) sc_cut_out.nd rfl (Or.inl rfl)) (pgs_cons (pg_name (i := 6) sc_cut_out.nd rfl (Or.inl rfl)) pgs_nil))) (pss_cons (ps_dput (hu1 hr.units) (pv 2) (pe_tup (pa_cons (pv 5) (pa_cons (pv 6) pa_nil))) (pe_op op_sub (pe_dget (hu1 hr.units) (pv 2) (pe_tup (pa_cons (pv 5) (pa_cons (pv 6) pa_nil))) (fun _ _ => rfl)) (pv 4)) rfl) (pss_one (ps_if (pt_cmpR op_eq (pe_dget (hu1 hr.units) (pv 2) (pe_tup (pa_cons (pv 5) (pa_cons (pv 6) pa_nil))) (fun _ _ => rfl)) pe_int (nomark _)) (pss_one (ps_expr (pe_meth (pv 1) R.cl_Ways M_Ways_take_off G_Ways_take_off (hr.mono (by decide)) d_Ways_take_off.b .nil pass0 (pa_cons (pv 5) (pa_cons (pv 6) pa_nil))))) pss_nil))))))), ?_⟩
  obtain ⟨dx, hx⟩ := wy.ins
  refine ⟨_, rfl, _, rfl, _, rfl, f, _, rfl, .inl (.inl hf), fun s1 hs1 => ?_⟩
  have sa := same_upd (u := .lst (cutV (r.map V.str) (some 1) none)) hs1
  have k1 : upd H s1 (.lst (cutV (r.map V.str) (some 1) none)) s1 = some (.lst ((r.drop 1).map V.str)) := by rw [upd_same, cut_on1, List.map_drop]
  generalize upd H s1 (.lst (cutV (r.map V.str) (some 1) none)) = H1 at sa k1
  refine ⟨_, rfl, _, rfl, f, _, rfl, .inl (.inl (sa _ _ hf)), fun s2 hs2 => ?_⟩
  have sb := same_upd' (u := .lst (cutV (r.map V.str) none (some 1))) sa hs2
  have k2' : upd H1 s2 (.lst (cutV (r.map V.str) none (some 1))) s2 = some (.lst ((r.take 1).map V.str)) := by rw [upd_same, cut_to1, List.map_take]
  have k1 := at_upd (u := .lst (cutV (r.map V.str) none (some 1))) k1 hs2
  generalize upd H1 s2 (.lst (cutV (r.map V.str) none (some 1))) = H2 at sb k1 k2'
  refine ⟨s1, s2, _, _, rfl, rfl, k1, k2', by rw [List.length_map, List.length_map, List.length_drop, List.length_take]; exact szOk (by omega), fun s3 hs3 => ?_⟩
  have sc := same_upd' (u := .lst ((r.drop 1).map V.str ++ (r.take 1).map V.str)) sb hs3
  have k3 : upd H2 s3 (.lst ((r.drop 1).map V.str ++ (r.take 1).map V.str)) s3 = some (.lst ((r.drop 1 ++ r.take 1).map V.str)) := by rw [upd_same, List.map_append]
  generalize upd H2 s3 (.lst ((r.drop 1).map V.str ++ (r.take 1).map V.str)) = H3 at sc k3
  refine ⟨f, s3, _, _, rfl, .inl (.inl (sc _ _ hf)), .inl (.inl k3), by rw [List.length_map, List.length_map, List.length_append, List.length_drop, List.length_take]; omega, fun H4 L ts s4 fL kL pt => ?_⟩
  rw [zipV] at pt
  obtain ⟨tz, rfl, etz, htz⟩ := pz (l := prs r) pt
  have sd := sc.trans s4
  have fL : H L = none := sc.free fL
  have ltz : tz.length = r.length := by have := congrArg List.length etz; rw [List.length_map, prs_len] at this; exact this
  have kL : H4 L = some (.lst (tz.map fun e => V.ref e.1)) := by rw [kL, List.map_map]; rfl
  have ine : ∀ e ∈ tz, (e.2.1, e.2.2) ∈ prs r := fun e he => by rw [← etz]; exact List.mem_map.mpr ⟨e, he, rfl⟩
  refine ⟨_, rfl, L, rfl, ⟨_, .inl (.inl kL)⟩, ?_⟩
  refine comp_all (K := K) (a := L) (ps := tz) (r := fun e => V.ref e.1) (fun e => V.int (A e.2.1 e.2.2)) (.inl (.inl kL)) (szOk (by omega)) (fun e H' he sm R hR => ?_) (fun H5 s5 lm hlm => ?_)
  · exact ⟨rfl, _, rfl, _, rfl, D, _, rfl, dA_get (sm _ _ (s4 _ _ (sc _ _ hD))) (sm _ _ (htz e he)) (red _ _ (ine e he)).1, hR _ (Same.refl _)⟩
  have s6 := same_upd' (u := .lst (tz.map fun e => V.int (A e.2.1 e.2.2))) s5 hlm
  have k6 : upd H5 lm (.lst (tz.map fun e => V.int (A e.2.1 e.2.2))) lm = some (.lst ((tz.map fun e => A e.2.1 e.2.2).map V.int)) := by rw [upd_same, List.map_map]; rfl
  generalize upd H5 lm (.lst (tz.map fun e => V.int (A e.2.1 e.2.2))) = H6 at s6 k6
  refine ⟨lm, _, rfl, .inl (.inl k6), by rw [List.length_map]; omega, fun m hm hmin => ?_⟩
  have kL := s6 _ _ kL
  have htz : ∀ e ∈ tz, H6 e.1 = some (.tup [.str e.2.1, .str e.2.2]) := fun e he => s6 _ _ (htz e he)
  have se := sd.trans s6
  have wy6 := wy.same se
  have hD6 := se _ _ hD
  have onm : ∀ a b, (a, b) ∈ prs r → m ≤ A a b := fun a b hab => by
    rw [← etz] at hab
    obtain ⟨e, he, ee⟩ := List.mem_map.mp hab
    have := hmin (A e.2.1 e.2.2) (List.mem_map.mpr ⟨e, he, rfl⟩)
    rw [ee] at this
    exact this
  have exm : ∃ a b, (a, b) ∈ prs r ∧ A a b = m := by
    obtain ⟨e, he, ee⟩ := List.mem_map.mp hm
    exact ⟨e.2.1, e.2.2, ine e he, ee⟩
  have nLg : ∀ {b : Addr} {vs : List V}, H6 b = some (.tup vs) → b ∉ gs.map (·.2.1) ∧ b ≠ dO ∧ b ≠ D := fun {b vs} hb => ⟨(fun z => by
    obtain ⟨g, hg, rfl⟩ := List.mem_map.mp z
    rw [wy6.ls g hg] at hb; cases hb), (fun z => by rw [z, wy6.ow] at hb; cases hb), (fun z => by rw [z, hD6] at hb; cases hb)⟩
  have nL : L ∉ gs.map (·.2.1) ∧ L ≠ dO ∧ L ≠ D := ⟨(fun z => by
    obtain ⟨g, hg, e⟩ := List.mem_map.mp z
    have := wy.ls g hg
    rw [e, fL] at this; cases this), (fun z => by have := wy.ow; rw [← z, fL] at this; cases this), (fun z => by rw [← z, fL] at hD; cases hD)⟩
  have pnd := prs_nd rnd
  refine ⟨_, rfl, L, rfl, ⟨_, .inl (.inl kL)⟩, ?_⟩
  refine for_list (K := K) (a := L) (xs := tz.map fun e => V.ref e.1) (fun i σ H' => (∀ b o, b ∉ gs.map (·.2.1) → b ≠ dO → b ≠ D → H6 b = some o → H' b = some o) ∧ H' D = some (.dT (dA vs (lowA r m A ((prs r).take i)))) ∧ (∃ gi : List GE, Ways R.c_Ways H' x dc dO gi ∧ gi.map (·.1) = gs.map (·.1) ∧ gi.map (·.2.1) = gs.map (·.2.1) ∧ (∀ z y, y ∈ outs gi z ↔ y ∈ outs gs z ∧ ¬ ((z, y) ∈ (prs r).take i ∧ A z y = m)) ∧ ∀ z, (outs gi z).Pairwise klt) ∧ ∃ v5 v6, σ = [some (.ref f), some (.ref x), some (.ref D), some (.ref L), some (.int m), v5, v6]) ⟨fun b o _ _ _ hb => hb, ?_, ⟨gs, wy6, rfl, rfl, fun z y => ⟨fun hy => ⟨hy, fun q => (nomatch q.1)⟩, fun q => q.1⟩, srt⟩, none, none, rfl⟩ (fun i σ H' _ z => .inl (.inl (z.1 _ _ nL.1 nL.2.1 nL.2.2 kL))) (fun i y0 σ H' hy0 z => ?_) (fun σ H' z => ?_)
  · rw [hD6]
    have : lowA r m A ((prs r).take 0) = A := funext fun x => funext fun y => lowA_not (by rw [List.take_zero]; exact (fun z => nomatch z))
    rw [this]
  · obtain ⟨fr, kD, ⟨gi, wi, n1, n2, me, sr⟩, v5, v6, rfl⟩ := z
    rw [List.getElem?_map] at hy0
    obtain ⟨⟨t, a, b⟩, hy, rfl⟩ := Option.map_eq_some_iff.mp hy0
    have he := List.mem_of_getElem? hy
    have ke6 := htz _ he
    have ke := fr _ _ (nLg ke6).1 (nLg ke6).2.1 (nLg ke6).2.2 ke6
    have hab := ine _ he
    dsimp only at ke6 ke hab
    have gp : (prs r)[i]? = some (a, b) := by rw [← etz, List.getElem?_map, hy]; rfl
    have tk : (prs r).take (i + 1) = (prs r).take i ++ [(a, b)] := by rw [List.take_add_one, gp]; rfl
    have nin : (a, b) ∉ (prs r).take i := fun z => by
      obtain ⟨j, hj⟩ := List.mem_iff_getElem?.mp z
      have lj := (List.getElem?_eq_some_iff.mp hj).1
      rw [List.length_take] at lj
      rw [List.getElem?_take_of_lt (by omega)] at hj
      have := (List.getElem?_inj (List.getElem?_eq_some_iff.mp gp).1 pnd).mp (gp.trans hj.symm)
      omega
    obtain ⟨hvs, hout⟩ := red a b hab
    refine ⟨t, _, rfl, .inl (.inl ke), rfl, _, _, rfl, _, _, rfl, rfl, ?_⟩
    refine ⟨_, rfl, _, rfl, _, rfl, by walk_at "sz", fun t1 ht1 => ?_⟩
    have u1 := same_upd (u := .tup [V.str a, V.str b]) ht1
    have kt1 : upd H' t1 (.tup [V.str a, V.str b]) t1 = some (.tup [V.str a, V.str b]) := upd_same
    have kD1 := u1 _ _ kD
    have wi1 := wi.same u1
    generalize upd H' t1 (.tup [V.str a, V.str b]) = H7 at u1 kt1 kD1 wi1
    refine ⟨D, _, rfl, dA_get kD1 kt1 hvs, _, rfl, _, _, rfl, rfl, _, rfl, _, rfl, _, rfl, by walk_at "sz", fun t2 ht2 => ?_⟩
    have u2 := same_upd' (u := .tup [V.str a, V.str b]) u1 ht2
    have kt2 : upd H7 t2 (.tup [V.str a, V.str b]) t2 = some (.tup [V.str a, V.str b]) := upd_same
    have kD2 := at_upd (u := .tup [V.str a, V.str b]) kD1 ht2
    have wi2 := wi1.same (same_upd (u := .tup [V.str a, V.str b]) ht2)
    generalize upd H7 t2 (.tup [V.str a, V.str b]) = H8 at u2 kt2 kD2 wi2
    refine ⟨D, _, rfl, dA_dput kD2 kt2 hvs l63, ?_⟩
    dsimp only
    rw [lowA_step nin, ← tk]
    obtain ⟨d1, d2, d3⟩ := wi2.xd
    obtain ⟨dxi, hxi⟩ := wi2.ins
    have nDw : D ≠ x ∧ D ≠ dc ∧ D ≠ dO ∧ ∀ g ∈ gi, D ≠ g.2.1 := ⟨(fun z => by rw [z, hxi] at kD2; cases kD2), (fun z => by rw [z, wi2.cr] at kD2; cases kD2), (fun z => by rw [z, wi2.ow] at kD2; cases kD2), fun g hg z => by rw [z, wi2.ls g hg] at kD2; cases kD2⟩
    have wi3 : Ways R.c_Ways (upd H8 D (.dT (dA vs (lowA r m A ((prs r).take (i + 1)))))) x dc dO gi :=
      ⟨⟨dxi, upd_oth hxi nDw.1.symm⟩, upd_oth wi2.cr nDw.2.1.symm, upd_oth wi2.ow nDw.2.2.1.symm, wi2.ne, fun g hg => upd_oth (wi2.ls g hg) (nDw.2.2.2 g hg).symm, wi2.nd, wi2.ad, wi2.cl, wi2.ln⟩
    have kD3 : upd H8 D (.dT (dA vs (lowA r m A ((prs r).take (i + 1))))) D = some (.dT (dA vs (lowA r m A ((prs r).take (i + 1))))) := upd_same
    have fr3 : ∀ b o, b ∉ gs.map (·.2.1) → b ≠ dO → b ≠ D → H6 b = some o → upd H8 D (.dT (dA vs (lowA r m A ((prs r).take (i + 1))))) b = some o := fun b o c1 c2 c3 hb => upd_oth (u2 _ _ (fr b o c1 c2 c3 hb)) c3
    generalize upd H8 D (.dT (dA vs (lowA r m A ((prs r).take (i + 1))))) = H9 at wi3 kD3 fr3
    refine ⟨_, rfl, _, rfl, _, rfl, by walk_at "sz", fun t3 ht3 => ?_⟩
    have u3 := same_upd (u := .tup [V.str a, V.str b]) ht3
    have kt3 : upd H9 t3 (.tup [V.str a, V.str b]) t3 = some (.tup [V.str a, V.str b]) := upd_same
    have kD4 := u3 _ _ kD3
    have wi4 := wi3.same u3
    have fr4 : ∀ b' o, b' ∉ gs.map (·.2.1) → b' ≠ dO → b' ≠ D → H6 b' = some o → upd H9 t3 (.tup [V.str a, V.str b]) b' = some o := fun b' o c1 c2 c3 hb => u3 _ _ (fr3 b' o c1 c2 c3 hb)
    generalize upd H9 t3 (.tup [V.str a, V.str b]) = HX at u3 kt3 kD4 wi4 fr4
    refine ⟨D, _, rfl, dA_get kD4 kt3 hvs, rfl, _, rfl, ?_⟩
    have eA : lowA r m A ((prs r).take (i + 1)) a b = A a b - m := by unfold lowA; rw [tk, if_pos (List.mem_append_right _ List.mem_cons_self)]
    rw [eA]
    have meO : ∀ z y, (z, y) ≠ (a, b) → ((z, y) ∈ (prs r).take (i + 1) ↔ (z, y) ∈ (prs r).take i) := fun z y ne => by
      rw [tk]
      exact ⟨fun w => (List.mem_append.mp w).elim id fun w => absurd (List.mem_singleton.mp w) ne, List.mem_append_left _⟩
    have hbi : b ∈ outs gi a := (me a b).mpr ⟨hout, fun w => nin w.1⟩
    refine ite2 (fun c => ?_) (fun c => ?_)
    · have c : A a b = m := by
        have c := of_decide_eq_true c
        have := V.int.inj c
        omega
      obtain ⟨j, hj⟩ := List.mem_iff_getElem?.mp hbi
      have ma : a ∈ gi.map (·.1) := by
        by_cases q : a ∈ gi.map (·.1)
        · exact q
        · rw [outs_not q] at hbi; cases hbi
      obtain ⟨dx4, hx4⟩ := wi4.ins
      refine ⟨_, rfl, x, dx4, _, rfl, hx4, rfl, _, rfl, _, rfl, x, dc, dO, gi, a, b, j, rfl, wi4, ma, hj, off_first (sr a) hj, fun H' g2 w2 m1 m2 o2 f2 => ?_⟩
      refine ⟨fun b o c1 c2 c3 hb => f2 b o (by rw [n2]; exact c1) c2 (fr4 b o c1 c2 c3 hb), f2 D _ (fun z => by
        obtain ⟨g, hg, e⟩ := List.mem_map.mp z
        exact nDw.2.2.2 g hg e.symm) nDw.2.2.1 kD4, ⟨g2, w2, m1.trans n1, m2.trans n2, fun z y => ?_, fun z => ?_⟩, _, _, rfl⟩
      · rw [o2]
        dsimp only
        by_cases e : z = a
        · subst e
          rw [if_pos rfl, off_mem (sr z) hj, me]
          by_cases e2 : y = b
          · subst e2
            exact ⟨fun w => absurd rfl w.2, fun w => absurd ⟨by rw [tk]; exact List.mem_append_right _ List.mem_cons_self, c⟩ w.2⟩
          · rw [meO z y fun w => e2 (by injection w)]
            exact ⟨fun w => w.1, fun w => ⟨w, e2⟩⟩
        · rw [if_neg e, me, meO z y fun w => e (by injection w)]
      · rw [o2]
        dsimp only
        by_cases e : z = a
        · rw [if_pos e]; exact (sr a).sublist (List.eraseIdx_sublist _ _)
        · rw [if_neg e]; exact sr z
    · have c : ¬ A a b = m := fun e => c (decide_eq_true (by rw [show A a b - m = 0 by omega]))
      refine ⟨fr4, kD4, ⟨gi, wi4, n1, n2, fun z y => ?_, sr⟩, _, _, rfl⟩
      rw [me]
      by_cases e : (z, y) = (a, b)
      · injection e with e1 e2
        subst e1 e2
        exact ⟨fun w => ⟨w.1, fun q => c q.2⟩, fun w => ⟨w.1, fun q => c q.2⟩⟩
      · rw [meO z y e]
  · obtain ⟨fr, kD, ⟨gi, wi, n1, n2, me, sr⟩, v5, v6, rfl⟩ := z
    rw [List.length_map, ltz, ← prs_len r, List.take_length] at kD me
    exact q _ gi m wi n1 n2 kD onm exm me sr (fun b o c1 c2 c3 hb => fr b o c1 c2 c3 (se _ _ hb))
theorem sc_ringless : FnScope ["book", "left", "ways", "start", "found", "cuts", "rest"] ["book"] (defScope (top 5)) := ⟨rfl, rfl, rfl, by decide +kernel, rfl, by decide +kernel, by decide +kernel⟩
def sp_ringless (K : PySem.W.Frag) : Sp := fun vs H Q _ => ∃ (b : Addr) (ps : List TD) (nm : List Str), vs = [.ref b] ∧ H b = some (.lst (ps.map rd)) ∧ Tds H ps ∧ ps.length ≤ 600 ∧ ps.Pairwise (fun a b => lt3 a b = true) ∧ (∀ p ∈ ps, 0 < p.2.2.2) ∧ (∀ p ∈ ps, p.2.1 ∈ nm ∧ p.2.2.1 ∈ nm) ∧ nm.length ≤ 60 ∧ ∀ (H' : Hp) (t c r : Addr) (cs rs : List TD) (A : Str → Str → Int), Same H H' → H' t = some (.tup [.ref c, .ref r]) → H' c = some (.lst (cs.map rd)) → H' r = some (.lst (rs.map rd)) → Tds H' cs → Tds H' rs → vD cs = ((vD ps).map fun p => (p.1, p.2.1, p.2.2 - A p.1 p.2.1)).filter posT → vD rs = cur (vD ps) A → (∀ p ∈ vD ps, 0 ≤ A p.1 p.2.1) → Wk (vD ps) (vD rs) → H r = none → Q (.ref t) H'
theorem ok_ringless (d_ringless : Dv K mg "ringless" (top 5) ["book"]) (B : Bl mg) (C : Co mg) (R : Er K mg) (d_Ways___init__ : L2.Mv K "__init__" "Ways.__init__" (sub 4 0) ["self", "book"]) (G_Ways___init__ : FnOk P w K mg base CX0 1 d_Ways___init__.f d_Ways___init__.fd ["self", "book"] (sp_Ways___init__ R.c_Ways)) (d_Ways_names : L2.Mv K "names" "Ways.names" (sub 4 1) ["self"]) (G_Ways_names : FnOk P w K mg base CX0 1 d_Ways_names.f d_Ways_names.fd ["self"] (sp_Ways_names R.c_Ways)) (d_Ways_round_from : L2.Mv K "round_from" "Ways.round_from" (sub 4 5) ["self", "start"]) (G_Ways_round_from : FnOk P w K mg base CX0 2 d_Ways_round_from.f d_Ways_round_from.fd ["self", "start"] (sp_Ways_round_from K R.c_Ways)) (d_cut_out : Dv K mg "cut_out" (top 7) ["found", "ways", "left"]) (G_cut_out : FnOk P w K mg base CX0 2 d_cut_out.f d_cut_out.fd ["found", "ways", "left"] (sp_cut_out K R.c_Ways)) (d_Ways_leave : L2.Mv K "leave" "Ways.leave" (sub 4 4) ["self", "debtor"]) (G_Ways_leave : FnOk P w K mg base CX0 1 d_Ways_leave.f d_Ways_leave.fd ["self", "debtor"] (sp_Ways_leave R.c_Ways)) (d_above_nought : Dv K mg "above_nought" (top 8) ["dues"]) (G_above_nought : FnOk P w K mg base CX0 1 d_above_nought.f d_above_nought.fd ["dues"] (sp_above_nought K)) (M_Ways_names : Meth K R.c_Ways "names" d_Ways_names.f) (M_Ways_round_from : Meth K R.c_Ways "round_from" d_Ways_round_from.f) (M_Ways_leave : Meth K R.c_Ways "leave" d_Ways_leave.f) (MK_Ways : Mk K R.c_Ways d_Ways___init__.f) : FnOk P w K mg base CX0 3 d_ringless.f d_ringless.fd ["book"] (sp_ringless K) := by
  refine d_ringless.F.ok sc_ringless (fun vs H Q E h => ?_) (fun cdv A outer s H vs Q E hr h => ?_)
  · obtain ⟨_, _, _, rfl, _⟩ := h; rfl
  obtain ⟨b, ps, nm, rfl, hb, hD, hl, pw3, pos, mem, m8, q⟩ := h
  refine ⟨_, (pss_cons (ps_set (i := 1) sc_ringless.nd rfl (Or.inr rfl) (pe_callTy (call_dictP rfl hr.units) rfl B.b_dict PyProof.Rows.boot_dict (pa_cons (pe_lcT (N := ["book", "left", "ways", "start", "found", "cuts", "rest"]) (M := ["book", "left", "ways", "start", "found", "cuts", "rest"]) (sc := defScope (top 5)) (ts := ["debtor", "creditor", "amount"]) ⟨by decide +kernel, rfl, by decide +kernel, by decide +kernel, by decide +kernel, rfl, by decide +kernel⟩ rfl rfl rfl (pi_list (pv 0)) (fun L_ _ _ _ _ _ => pg_tupK K 3 rfl rfl (pgs_cons (L_.nm rfl 0 rfl rfl _ _ _ _ _) (pgs_cons (L_.nm rfl 1 rfl rfl _ _ _ _ _) (pgs_cons (L_.nm rfl 2 rfl rfl _ _ _ _ _) pgs_nil)))) (fun _ _ _ _ _ => pif_nil) (fun _ _ _ _ _ => (pe_tup (pa_cons (pe_tup (pa_cons (pv 0) (pa_cons (pv 1) pa_nil))) (pa_cons (pv 2) pa_nil))))) pa_nil))) (pss_cons (ps_set (i := 2) sc_ringless.nd rfl (Or.inl rfl) (pe_make MK_Ways G_Ways___init__ (hr.mono (by decide)) rfl R.m_Ways d_Ways___init__.b .nil pass0 (pa_cons (pv 0) pa_nil))) (pss_cons (ps_for PassesOwn.never rfl (pi_list (pe_meth0 (pv 2) R.cl_Ways M_Ways_names G_Ways_names (hr.mono (by decide)) d_Ways_names.b .nil pass0)) (pg_name (i := 3) sc_ringless.nd rfl (Or.inl rfl)) (pss_cons (ps_set (i := 4) sc_ringless.nd rfl (Or.inl rfl) (pe_meth (pv 2) R.cl_Ways M_Ways_round_from G_Ways_round_from (hr.mono (by decide)) d_Ways_round_from.b .nil pass0 (pa_cons (pv 3) pa_nil))) (pss_cons (ps_while PassesOwn.never (pt_cmpR (op_neD hr.units) (pv 4) (pe_lst pa_nil) (nomark _)) (pss_cons (ps_expr (pe_call G_cut_out (hr.mono (by decide)) rfl d_cut_out.m d_cut_out.F.kp d_cut_out.b .nil pass0 (pa_cons (pv 4) (pa_cons (pv 2) (pa_cons (pv 1) pa_nil))))) (pss_one (ps_set (i := 4) sc_ringless.nd rfl (Or.inl rfl) (pe_meth (pv 2) R.cl_Ways M_Ways_round_from G_Ways_round_from (hr.mono (by decide)) d_Ways_round_from.b .nil pass0 (pa_cons (pv 3) pa_nil)))))) (pss_one (ps_expr (pe_meth (pv 2) R.cl_Ways M_Ways_leave G_Ways_leave (hr.mono (by decide)) d_Ways_leave.b .nil pass0 (pa_cons (pv 3) pa_nil))))))) (pss_cons (ps_lcT (i := 5) sc_ringless.nd rfl rfl (N := ["book", "left", "ways", "start", "found", "cuts", "rest"]) (M := ["book", "left", "ways", "start", "found", "cuts", "rest"]) (sc := defScope (top 5)) (ts := ["debtor", "creditor", "amount"]) ⟨by decide +kernel, rfl, by decide +kernel, by decide +kernel, by decide +kernel, rfl, by decide +kernel⟩ rfl rfl rfl (pi_list (pv 0)) (fun L_ _ _ _ _ _ => pg_tupK K 3 rfl rfl (pgs_cons (L_.nm rfl 0 rfl rfl _ _ _ _ _) (pgs_cons (L_.nm rfl 1 rfl rfl _ _ _ _ _) (pgs_cons (L_.nm rfl 2 rfl rfl _ _ _ _ _) pgs_nil)))) (fun _ _ _ _ _ => pif_nil) (fun _ _ _ _ _ => (pe_tup (pa_cons (pv 0) (pa_cons (pv 1) (pa_cons (pe_op op_sub (pv 2) (pe_dget (hu1 hr.units) (pv 4) (pe_tup (pa_cons (pv 0) (pa_cons (pv 1) pa_nil))) (fun _ _ => rfl))) pa_nil)))))) (pss_cons (ps_lcT (i := 6) sc_ringless.nd rfl rfl (N := ["book", "left", "ways", "start", "found", "cuts", "rest"]) (M := ["book", "left", "ways", "start", "found", "cuts", "rest"]) (sc := defScope (top 5)) (ts := ["debtor", "creditor", "amount"]) ⟨by decide +kernel, rfl, by decide +kernel, by decide +kernel, by decide +kernel, rfl, by decide +kernel⟩ rfl rfl rfl (pi_list (pv 0)) (fun L_ _ _ _ _ _ => pg_tupK K 3 rfl rfl (pgs_cons (L_.nm rfl 0 rfl rfl _ _ _ _ _) (pgs_cons (L_.nm rfl 1 rfl rfl _ _ _ _ _) (pgs_cons (L_.nm rfl 2 rfl rfl _ _ _ _ _) pgs_nil)))) (fun _ _ _ _ _ => pif_nil) (fun _ _ _ _ _ => (pe_tup (pa_cons (pv 0) (pa_cons (pv 1) (pa_cons (pe_dget (hu1 hr.units) (pv 4) (pe_tup (pa_cons (pv 0) (pa_cons (pv 1) pa_nil))) (fun _ _ => rfl)) pa_nil)))))) (pss_one (ps_ret (pe_tup (pa_cons (pe_call G_above_nought (hr.mono (by decide)) rfl d_above_nought.m d_above_nought.F.kp d_above_nought.b .nil pass0 (pa_cons (pv 5) pa_nil)) (pa_cons (pe_call G_above_nought (hr.mono (by decide)) rfl d_above_nought.m d_above_nought.F.kp d_above_nought.b .nil pass0 (pa_cons (pv 6) pa_nil)) pa_nil)))))))))), ?_⟩
  have pwv := s3_of pw3
  have posv : ∀ p ∈ vD ps, 0 < p.2.2 := fun p hp => by obtain ⟨z, hz, rfl⟩ := List.mem_map.mp hp; exact pos z hz
  have lv : (vD ps).length ≤ 600 := by unfold vD; rw [List.length_map]; exact hl
  refine ⟨_, rfl, b, rfl, ⟨_, .inl (.inl hb)⟩, ?_⟩
  refine comp_inv (K := K) (a := b) (ps := ps) (r := rd) (fun i ys H' => Same H H' ∧ ∃ ts : List Addr, ys = ts.map V.ref ∧ ts.length = i ∧ Paired (DPr H') ts (((vD ps).take i).map fun p => (k2 p.1 p.2.1, V.int p.2.2))) ⟨Same.refl _, [], rfl, rfl, .nil⟩ (fun i ys H' z => .inl (.inl (z.1 _ _ hb))) (fun i ys H' z => ?_) (szOk (by omega)) (fun i y ys H' hy z => ?_) (fun ys H1 z => ?_)
  · obtain ⟨_, ts, rfl, e, _⟩ := z
    rw [List.length_map, e]
    exact Nat.le_refl _
  · obtain ⟨s1, ts, rfl, et, pt⟩ := z
    have ky := s1 _ _ (hD y (List.mem_of_getElem? hy))
    refine ⟨y.1, _, rfl, .inl (.inl ky), rfl, _, _, rfl, _, _, rfl, _, _, rfl, rfl, rfl, ?_⟩
    refine ⟨_, rfl, _, rfl, by walk_at "sz", fun t1 ht1 => ⟨_, rfl, by walk_at "sz", fun t2 ht2 => ?_⟩⟩
    have u1 := same_upd (u := .tup [V.str y.2.1, V.str y.2.2.1]) ht1
    have k1 : upd H' t1 (.tup [V.str y.2.1, V.str y.2.2.1]) t1 = some (.tup [V.str y.2.1, V.str y.2.2.1]) := upd_same
    have u2 := same_upd' (u := .tup [V.ref t1, V.int y.2.2.2]) u1 ht2
    refine ⟨s1.trans u2, ts ++ [t2], by rw [List.map_append]; rfl, by rw [List.length_append, et]; rfl, ?_⟩
    rw [vD_snoc hy]
    exact (dpr_same u2 pt).snoc ⟨t1, upd_same, at_upd k1 ht2⟩
  obtain ⟨s1, ts, rfl, et, pt⟩ := z
  rw [← vD_len, List.take_length] at pt
  intro lL hlL
  have s2 := same_upd' (u := .lst (ts.map V.ref)) s1 hlL
  have kL : upd H1 lL (.lst (ts.map V.ref)) lL = some (.lst (ts.map V.ref)) := upd_same
  have pt := dpr_same (same_upd (u := .lst (ts.map V.ref)) hlL) pt
  generalize upd H1 lL (.lst (ts.map V.ref)) = H2 at s2 kL pt
  refine ⟨lL, ts, _, rfl, kL, pt, k2_nd pwv, fun D hD0 => ?_⟩
  rw [A0_dA pwv]
  have fD : H D = none := s2.free hD0
  have sB := same_upd' (u := .dT (dA (vD ps) (A0 (vD ps)))) s2 hD0
  have kD : upd H2 D (.dT (dA (vD ps) (A0 (vD ps)))) D = some (.dT (dA (vD ps) (A0 (vD ps)))) := upd_same
  generalize upd H2 D (.dT (dA (vD ps) (A0 (vD ps)))) = Hb at sB kD
  clear pt kL hlL hD0
  refine ⟨_, rfl, fun x dx hx0 hdx ndx => ?_⟩
  have sA := same_upd' (u := .ins R.c_Ways dx []) (same_upd (u := .own x) hdx) (by rw [upd_ne ndx.symm]; exact hx0)
  have nbx : ∀ {z : Addr} {o : HO}, Hb z = some o → z ≠ x := fun {z o} hz e => by rw [e, hx0] at hz; cases hz
  refine ⟨x, dx, b, ps, rfl, upd_same, sA _ _ (sB _ _ hb), fun p hp => sA _ _ (sB _ _ (hD p hp)), hl, fun H3 dc dO gs wy eg fr fc fo fl => ?_⟩
  have s3 : Same Hb H3 := fun z o hz => fr z o (nbx hz) (sA _ _ hz)
  have fc : H dc = none := sB.free (sA.free fc)
  have fo : H dO = none := sB.free (sA.free fo)
  have nmg : gs.map (·.1) = (bld (vD ps)).map (·.1) := by rw [← eg, gv_names]
  have lg : gs.length < 64 := by
    have h1 := congrArg List.length nmg
    rw [List.length_map, List.length_map] at h1
    have := bld_len (vs := vD ps) (nm := nm) fun p hp => by
      obtain ⟨z, hz, rfl⟩ := List.mem_map.mp hp
      exact mem z hz
    omega
  obtain ⟨dx1, hx1⟩ := wy.ins
  refine ⟨rfl, ?_⟩
  refine ⟨_, rfl, x, dx1, _, rfl, hx1, rfl, x, dc, dO, gs, rfl, wy, lg, fun H4 l ms s4 fl4 kl pm pw => ⟨l, rfl, ⟨_, .inl (.inl kl)⟩, ?_⟩⟩
  have memv : ∀ p ∈ vD ps, p.1 ∈ ms ∧ p.2.1 ∈ ms := fun p hp => by
    have h1 : p.2.1 ∈ outsP (bld (vD ps)) p.1 := (bld_edge _ _ _).mpr ⟨p, hp, rfl, rfl⟩
    have a1 : p.1 ∈ gs.map (·.1) := by
      rw [nmg]
      by_cases c : p.1 ∈ (bld (vD ps)).map (·.1)
      · exact c
      · rw [outsP_not c] at h1; cases h1
    refine ⟨pm.mem_iff.mpr a1, pm.mem_iff.mpr ?_⟩
    obtain ⟨e, he, ee⟩ := List.mem_map.mp a1
    have h2 : p.2.1 ∈ outs gs p.1 := by unfold outs; rw [eg]; exact h1
    rw [← ee, outs_of wy.nd he] at h2
    exact wy.cl e he _ h2
  have ri0 : RI R.c_Ways H H4 x dc dO l D (vD ps) ms (gs.map (·.1)) 0 (A0 (vD ps)) gs :=
    ⟨(sB.trans s3).trans s4, kl, wy.same s4, rfl, fun e he => ⟨sB.free (sA.free (fl e he)), fun z => by have := wy.ls e he; rw [z, fl4] at this; cases this⟩, s4 _ _ (s3 _ _ kD), RS.start pwv posv (by unfold outs; rw [eg])⟩
  have hH : ∀ {z : Addr} {o : HO}, H z = some o → z ≠ dc ∧ z ≠ dO ∧ z ≠ D := fun {z o} hz => ⟨(fun e => by rw [e, fc] at hz; cases hz), (fun e => by rw [e, fo] at hz; cases hz), (fun e => by rw [e, fD] at hz; cases hz)⟩
  refine for_list (K := K) (a := l) (xs := ms.map V.str) (fun i σ H' => (∃ A gi, RI R.c_Ways H H' x dc dO l D (vD ps) ms (gs.map (·.1)) i A gi) ∧ ∃ v3 v4, σ = [some (.ref b), some (.ref D), some (.ref x), v3, v4, none, none]) ⟨⟨_, gs, ri0⟩, none, none, rfl⟩ (fun i σ H' _ z => by obtain ⟨⟨_, _, h⟩, _⟩ := z; exact .inl (.inl h.kl)) (fun i y0 σ H' hy0 z => ?_) (fun σ H' z => ?_)
  · obtain ⟨⟨A, gi, ri⟩, v3, v4, rfl⟩ := z
    rw [List.getElem?_map] at hy0
    obtain ⟨n, hn, rfl⟩ := Option.map_eq_some_iff.mp hy0
    have ngs : n ∈ gs.map (·.1) := pm.mem_iff.mp (List.mem_of_getElem? hn)
    have ng : n ∈ gi.map (·.1) := by rw [ri.nm]; exact ngs
    obtain ⟨dx2, hx2⟩ := ri.wy.ins
    refine ⟨_, rfl, x, dx2, _, rfl, hx2, rfl, _, rfl, x, dc, dO, gi, n, rfl, ri.wy, ng, fun H5 fd r s5 ffd kfd rf => ?_⟩
    refine ⟨fun m σ' H' => ∃ (A : Str → Str → Int) (gi : List GE) (fd : Addr) (r : List Str), m = (cur (vD ps) A).length ∧ σ' = [some (.ref b), some (.ref D), some (.ref x), some (.str n), some (.ref fd), none, none] ∧ RI R.c_Ways H H' x dc dO l D (vD ps) ms (gs.map (·.1)) i A gi ∧ H' fd = some (.lst (r.map V.str)) ∧ RF (outs gi) n r, ⟨_, A, gi, fd, r, rfl, rfl, ri.same s5, kfd, rf⟩, ?_⟩
    clear rf kfd ffd s5 hx2 ng ri
    rintro m _ H6 ⟨A, gi, fd, r, rfl, rfl, ri, kfd, rf⟩
    have ng : n ∈ gi.map (·.1) := by rw [ri.nm]; exact ngs
    refine ⟨_, rfl, by walk_at "sz", fun l0 hl0 => ?_⟩
    have s7 := same_upd (u := .lst []) hl0
    have k0 : upd H6 l0 (.lst []) l0 = some (.lst []) := upd_same
    have ri := ri.same s7
    have kfd := s7 _ _ kfd
    generalize upd H6 l0 (.lst []) = H7 at s7 k0 ri kfd
    obtain ⟨dx7, hx7⟩ := ri.wy.ins
    cases r with
    | nil =>
      refine ⟨fd, l0, _, _, rfl, rfl, .inl (.inl kfd), .inl (.inl k0), .inr ⟨rfl, fun _ => true, fun j hj => absurd hj (Nat.not_lt_zero _), _, rfl, iteF ?_⟩⟩
      refine ⟨_, rfl, x, dx7, _, rfl, hx7, rfl, _, rfl, x, dc, dO, gi, n, rfl, ri.wy, ng, fun H8 ll g2 w2 n2 o2 f2 a2 _ _ => ?_⟩
      have kl7 := ri.kl
      refine ⟨⟨A, g2, fun z o hz => f2 z o (hH hz).1 (hH hz).2.1 (ri.sm _ _ hz), f2 _ _ (fun e => by rw [e, ri.wy.cr] at kl7; cases kl7) (fun e => by rw [e, ri.wy.ow] at kl7; cases kl7) kl7, w2, n2.trans ri.nm, fun e he => ?_, f2 _ _ (fun e => by have := ri.kD; rw [e, ri.wy.cr] at this; cases this) (fun e => by have := ri.kD; rw [e, ri.wy.ow] at this; cases this) ri.kD, by rw [o2]; exact ri.rs.next memv pw hn rf⟩, _, _, rfl⟩
      rcases a2 e he with z | z
      · obtain ⟨g, hg, eg'⟩ := List.mem_map.mp z
        rw [← eg']; exact ri.fb g hg
      · exact ⟨ri.sm.free z, fun e2 => by rw [e2, kl7] at z; cases z⟩
    | cons a r =>
      refine ⟨fd, l0, _, _, rfl, rfl, .inl (.inl kfd), .inl (.inl k0), .inl ⟨by rw [List.length_map]; show ¬ _ + 1 = 0; omega, _, rfl, iteT ?_⟩⟩
      refine ⟨fun σ' H' => ∃ m', m' < (cur (vD ps) A).length ∧ ∃ (A : Str → Str → Int) (gi : List GE) (fd : Addr) (r : List Str), m' = (cur (vD ps) A).length ∧ σ' = [some (.ref b), some (.ref D), some (.ref x), some (.str n), some (.ref fd), none, none] ∧ RI R.c_Ways H H' x dc dO l D (vD ps) ms (gs.map (·.1)) i A gi ∧ H' fd = some (.lst (r.map V.str)) ∧ RF (outs gi) n r, fun _ _ z => z, ?_⟩
      have ne : (a :: r) ≠ [] := fun z => nomatch z
      have lr := ri.rs.lr memv pw hn rf ne
      obtain ⟨n0, ok, _⟩ := lr.1
      have okg := rf.sound.resolve_left ne
      have rl : (a :: r).length ≤ gi.length := by
        have := nd_le' okg.nd (m := gi.map (·.1)) fun y hy => by
          by_cases c : y ∈ gi.map (·.1)
          · exact c
          · exfalso
            rw [← prs_fst (a :: r)] at hy
            obtain ⟨e, he, ee⟩ := List.mem_map.mp hy
            have := ring_edge okg (a := e.1) (b := e.2) he
            rw [ee, outs_not c] at this
            cases this
        rw [List.length_map] at this
        exact this
      have lgi : gi.length = gs.length := by have := congrArg List.length ri.nm; rw [List.length_map, List.length_map] at this; exact this
      refine ⟨_, rfl, _, rfl, _, rfl, fd, x, D, dc, dO, gi, a :: r, vD ps, A, rfl, kfd, ri.wy, ri.kD, okg.nd, Nat.succ_pos _, by omega, lv, fun c d hcd => ⟨(cur_ed.mp (on_mem lr.1 hcd)).1, ring_edge okg hcd⟩, ri.rs.sr, fun H8 g2 m w2 n2 a2 kD2 onm exm me sr2 f2 => ?_⟩
      have isM : IsM (cur (vD ps) A) (a :: r) m := by
        refine ⟨fun p hp ho => ?_, ?_⟩
        · obtain ⟨h1, _⟩ := List.mem_filter.mp hp
          obtain ⟨z, _, rfl⟩ := List.mem_map.mp h1
          exact onm _ _ (of_decide_eq_true ho)
        · obtain ⟨c, d, hcd, e⟩ := exm
          obtain ⟨p, hp, e1, e2⟩ := on_mem lr.1 hcd
          refine ⟨p, hp, decide_eq_true (by rw [e1, e2]; exact hcd), ?_⟩
          obtain ⟨h1, _⟩ := List.mem_filter.mp hp
          obtain ⟨z, _, rfl⟩ := List.mem_map.mp h1
          show A z.1 z.2.1 = m
          rw [show z.1 = c from e1, show z.2.1 = d from e2]; exact e
      obtain ⟨rs2, lt2⟩ := ri.rs.cut memv pw hn rf ne isM me sr2
      have kl7 := ri.kl
      have nla : ∀ {z : Addr}, (∀ e ∈ gi, e.2.1 ≠ z) → z ∉ gi.map (·.2.1) := fun {z} h w => by obtain ⟨e, he, ee⟩ := List.mem_map.mp w; exact h e he ee
      have ri2 : RI R.c_Ways H H8 x dc dO l D (vD ps) ms (gs.map (·.1)) i (lowA (a :: r) m A (prs (a :: r))) g2 := by
        refine ⟨fun z o hz => f2 z o (nla fun e he w => by have := (ri.fb e he).1; rw [w, hz] at this; cases this) (hH hz).2.1 (hH hz).2.2 (ri.sm _ _ hz), f2 _ _ (nla fun e he => (ri.fb e he).2) (fun e => by rw [e, ri.wy.ow] at kl7; cases kl7) (fun e => by rw [e, ri.kD] at kl7; cases kl7) kl7, w2, n2.trans ri.nm, fun e he => ?_, kD2, rs2⟩
        have : e.2.1 ∈ gi.map (·.2.1) := by rw [← a2]; exact List.mem_map.mpr ⟨e, he, rfl⟩
        obtain ⟨g, hg, eg'⟩ := List.mem_map.mp this
        rw [← eg']; exact ri.fb g hg
      have ng2 : n ∈ g2.map (·.1) := by rw [ri2.nm]; exact ngs
      obtain ⟨dx8, hx8⟩ := w2.ins
      refine ⟨_, rfl, x, dx8, _, rfl, hx8, rfl, _, rfl, x, dc, dO, g2, n, rfl, w2, ng2, fun H9 fd2 r2 s9 ffd2 kfd2 rf2 => ?_⟩
      exact ⟨_, lt2, _, g2, fd2, r2, rfl, rfl, ri2.same s9, kfd2, rf2⟩
  · obtain ⟨⟨A, gi, ri⟩, v3, v4, rfl⟩ := z
    rw [List.length_map] at ri
    have wk := ri.rs.done memv
    have nn := ri.rs.nn
    have sm := ri.sm
    have kD := ri.kD
    clear ri0 kl fl4 s4 s3 sA
    refine ⟨_, rfl, b, rfl, ⟨_, .inl (.inl (sm _ _ hb))⟩, ?_⟩
    refine comp_inv (K := K) (a := b) (ps := ps) (r := rd) (fun i ys H2 => Same H' H2 ∧ ∃ cs : List TD, ys = cs.map rd ∧ cs.length = i ∧ Tds H2 cs ∧ vD cs = ((vD ps).take i).map fun p => (p.1, p.2.1, p.2.2 - A p.1 p.2.1)) ⟨Same.refl _, [], rfl, rfl, (fun _ z => nomatch z), rfl⟩ (fun i ys H2 z => .inl (.inl (z.1 _ _ (sm _ _ hb)))) (fun i ys H2 z => by obtain ⟨_, cs, rfl, e, _⟩ := z; rw [List.length_map, e]; exact Nat.le_refl _) (szOk (by omega)) (fun i y ys H2 hy z => ?_) (fun ys lcH z => ?_)
    · obtain ⟨u0, cs, rfl, ec, tc, ev⟩ := z
      have my := List.mem_of_getElem? hy
      have ky := u0 _ _ (sm _ _ (hD y my))
      refine ⟨y.1, _, rfl, .inl (.inl ky), rfl, _, _, rfl, _, _, rfl, _, _, rfl, rfl, rfl, ?_⟩
      refine ⟨_, rfl, _, rfl, _, rfl, _, rfl, _, rfl, _, rfl, by walk_at "sz", fun t1 ht1 => ?_⟩
      have u1 := same_upd' (u := .tup [V.str y.2.1, V.str y.2.2.1]) u0 ht1
      have kt1 : upd H2 t1 (.tup [V.str y.2.1, V.str y.2.2.1]) t1 = some (.tup [V.str y.2.1, V.str y.2.2.1]) := upd_same
      refine ⟨D, _, rfl, dA_get (u1 _ _ (kD)) kt1 ⟨y.2, List.mem_map.mpr ⟨y, my, rfl⟩, rfl, rfl⟩, _, _, rfl, rfl, by walk_at "sz", fun t2 ht2 => ?_⟩
      have u2 := same_upd' (u := .tup [V.str y.2.1, V.str y.2.2.1, V.int (y.2.2.2 - A y.2.1 y.2.2.1)]) (same_upd (u := .tup [V.str y.2.1, V.str y.2.2.1]) ht1) ht2
      refine ⟨u0.trans u2, cs ++ [(t2, y.2.1, y.2.2.1, y.2.2.2 - A y.2.1 y.2.2.1)], by rw [List.map_append]; rfl, by rw [List.length_append, ec]; rfl, fun p hp => ?_, ?_⟩
      · rcases List.mem_append.mp hp with hp | hp
        · exact u2 _ _ (tc p hp)
        · rw [List.mem_singleton.mp hp]; exact upd_same
      · rw [vD_snoc hy, ← ev]; unfold vD; rw [List.map_append]; rfl
    obtain ⟨u_lc, lcs, rfl, e_lc, t_lc, v_lc⟩ := z
    rw [← vD_len, List.take_length] at v_lc
    intro lc hl_lc
    have w1 := same_upd' (u := .lst (lcs.map rd)) u_lc hl_lc
    have k1 : upd lcH lc (.lst (lcs.map rd)) lc = some (.lst (lcs.map rd)) := upd_same
    have t1 : Tds (upd lcH lc (.lst (lcs.map rd))) lcs := fun p hp => at_upd (t_lc p hp) hl_lc
    have sm1 := sm.trans w1
    have kD1 := w1 _ _ kD
    generalize upd lcH lc (.lst (lcs.map rd)) = HC at w1 k1 t1 sm1 kD1
    refine ⟨_, rfl, b, rfl, ⟨_, .inl (.inl (sm1 _ _ hb))⟩, ?_⟩
    refine comp_inv (K := K) (a := b) (ps := ps) (r := rd) (fun i ys H2 => Same HC H2 ∧ ∃ cs : List TD, ys = cs.map rd ∧ cs.length = i ∧ Tds H2 cs ∧ vD cs = ((vD ps).take i).map fun p => (p.1, p.2.1, A p.1 p.2.1)) ⟨Same.refl _, [], rfl, rfl, (fun _ z => nomatch z), rfl⟩ (fun i ys H2 z => .inl (.inl (z.1 _ _ (sm1 _ _ hb)))) (fun i ys H2 z => by obtain ⟨_, cs, rfl, e, _⟩ := z; rw [List.length_map, e]; exact Nat.le_refl _) (szOk (by omega)) (fun i y ys H2 hy z => ?_) (fun ys lrH z => ?_)
    · obtain ⟨u0, cs, rfl, ec, tc, ev⟩ := z
      have my := List.mem_of_getElem? hy
      have ky := u0 _ _ (sm1 _ _ (hD y my))
      refine ⟨y.1, _, rfl, .inl (.inl ky), rfl, _, _, rfl, _, _, rfl, _, _, rfl, rfl, rfl, ?_⟩
      refine ⟨_, rfl, _, rfl, _, rfl, _, rfl, _, rfl, by walk_at "sz", fun t1 ht1 => ?_⟩
      have u1 := same_upd' (u := .tup [V.str y.2.1, V.str y.2.2.1]) u0 ht1
      have kt1 : upd H2 t1 (.tup [V.str y.2.1, V.str y.2.2.1]) t1 = some (.tup [V.str y.2.1, V.str y.2.2.1]) := upd_same
      refine ⟨D, _, rfl, dA_get (u1 _ _ (kD1)) kt1 ⟨y.2, List.mem_map.mpr ⟨y, my, rfl⟩, rfl, rfl⟩, by walk_at "sz", fun t2 ht2 => ?_⟩
      have u2 := same_upd' (u := .tup [V.str y.2.1, V.str y.2.2.1, V.int (A y.2.1 y.2.2.1)]) (same_upd (u := .tup [V.str y.2.1, V.str y.2.2.1]) ht1) ht2
      refine ⟨u0.trans u2, cs ++ [(t2, y.2.1, y.2.2.1, A y.2.1 y.2.2.1)], by rw [List.map_append]; rfl, by rw [List.length_append, ec]; rfl, fun p hp => ?_, ?_⟩
      · rcases List.mem_append.mp hp with hp | hp
        · exact u2 _ _ (tc p hp)
        · rw [List.mem_singleton.mp hp]; exact upd_same
      · rw [vD_snoc hy, ← ev]; unfold vD; rw [List.map_append]; rfl
    obtain ⟨u_lr, lrs, rfl, e_lr, t_lr, v_lr⟩ := z
    rw [← vD_len, List.take_length] at v_lr
    intro lr hl_lr
    have w2 := same_upd' (u := .lst (lrs.map rd)) u_lr hl_lr
    have k2r : upd lrH lr (.lst (lrs.map rd)) lr = some (.lst (lrs.map rd)) := upd_same
    have t2 : Tds (upd lrH lr (.lst (lrs.map rd))) lrs := fun p hp => at_upd (t_lr p hp) hl_lr
    generalize upd lrH lr (.lst (lrs.map rd)) = HD at w2 k2r t2
    refine ⟨_, rfl, lc, lcs, rfl, w2 _ _ k1, fun p hp => w2 _ _ (t1 p hp), by omega, fun HE l1 sE fE kE => ?_⟩
    refine ⟨_, rfl, lr, lrs, rfl, sE _ _ k2r, fun p hp => sE _ _ (t2 p hp), by omega, fun HF l2 sF fF kF => ⟨by walk_at "sz", fun t ht => ?_⟩⟩
    have sG := same_upd (u := .tup [V.ref l1, V.ref l2]) ht
    have sub : ∀ {f : TD → Bool} {cs : List TD} {p : TD}, p ∈ cs.filter f → p ∈ cs := fun h => (List.mem_filter.mp h).1
    refine q _ t l1 l2 (lcs.filter fun p => decide (0 < p.2.2.2)) (lrs.filter fun p => decide (0 < p.2.2.2)) A (((sm1.trans w2).trans (sE.trans sF)).trans sG) upd_same (sG _ _ (sF _ _ kE)) (sG _ _ kF) (fun p hp => sG _ _ (sF _ _ (sE _ _ (w2 _ _ (t1 p (sub hp)))))) (fun p hp => sG _ _ (sF _ _ (sE _ _ (t2 p (sub hp))))) ?_ ?_ nn ?_ (((sm1.trans w2).trans sE).free fF)
    · rw [vD_filter, v_lc]
    · rw [vD_filter, v_lr]; rfl
    · rw [vD_filter, v_lr]; exact wk
theorem sc__law_cell_at : FnScope ["script", "k"] ["script", "k"] (defScope (top 10)) := ⟨rfl, rfl, rfl, by decide +kernel, rfl, by decide +kernel, by decide +kernel⟩
def sp__law_cell_at (K : PySem.W.Frag) : Sp := fun vs H Q _ => ∃ (a : Addr) (ns : List Int) (k : Int), vs = [.ref a, .int k] ∧ SqL K H a (ns.map V.int) ∧ 0 ≤ k ∧ Q (.int (cell ns k)) H
theorem ok__law_cell_at (d__law_cell_at : Dv K mg "_law_cell_at" (top 10) ["script", "k"]) (B : Bl mg) (C : Co mg) (R : Er K mg)  : FnOk P w K mg base CX0 1 d__law_cell_at.f d__law_cell_at.fd ["script", "k"] (sp__law_cell_at K) := by
  refine d__law_cell_at.F.ok sc__law_cell_at (fun vs H Q E h => ?_) (fun cdv A outer s H vs Q E hr h => ?_)
  · obtain ⟨_, _, _, rfl, _⟩ := h; rfl
  obtain ⟨a, ns, k, rfl, hS, h0, q⟩ := h
  refine ⟨_, (pss_cons (ps_if (pt_cmpR op_lt (pv 1) (pe_callB call_len_seq rfl B.b_len PySem.boot_len (pa_cons (pv 0) pa_nil)) (nomark _)) (pss_one (ps_ret (pe_ix ix_list (pv 0) (pv 1) (fun _ _ => rfl)))) pss_nil) (pss_one (ps_ret pe_int))), ?_⟩
  have hl : (ns.map V.int).length = ns.length := List.length_map _
  refine ⟨_, rfl, _, rfl, a, _, rfl, .inl hS, _, _, rfl, rfl, _, rfl, ?_⟩
  unfold cell at q
  refine ite2 (fun c => ?_) (fun c => ?_)
  · have c' : k < (ns.length : Int) := by simpa using c
    rw [if_pos c'] at q
    exact ⟨_, rfl, _, rfl, a, _, _, _, rfl, rfl, hS, at_cell h0 c', q⟩
  · have c' : ¬ k < (ns.length : Int) := by simpa using c
    rw [if_neg c'] at q
    exact q
theorem sc__law_name : FnScope ["k", "cell", "letters", "signs", "at", "more", "seed", "word"] ["k", "cell"] (defScope (top 11)) := ⟨rfl, rfl, rfl, by decide +kernel, rfl, by decide +kernel, by decide +kernel⟩
def sp__law_name (K : PySem.W.Frag) : Sp := fun vs H Q _ => ∃ (k c : Int), vs = [.int k, .int c] ∧ 0 ≤ k ∧ k < 1000 ∧ ∀ (z : Str) (H' : Hp), Same H H' → z.length ≤ 25 → Tell c z (k % 26).toNat → Q (.str z) H'
theorem ok__law_name (d__law_name : Dv K mg "_law_name" (top 11) ["k", "cell"]) (B : Bl mg) (C : Co mg) (R : Er K mg)  : FnOk P w K mg base CX0 1 d__law_name.f d__law_name.fd ["k", "cell"] (sp__law_name K) := by
  refine d__law_name.F.ok sc__law_name (fun vs H Q E h => ?_) (fun cdv A outer s H vs Q E hr h => ?_)
  · obtain ⟨_, _, rfl, _⟩ := h; rfl
  obtain ⟨k, c, rfl, h0, h1, q⟩ := h
  refine ⟨_, (pss_cons (ps_set (i := 2) sc__law_name.nd rfl (Or.inl rfl) pe_str) (pss_cons (ps_set (i := 3) sc__law_name.nd rfl (Or.inr rfl) (pe_op op_add_str (pv 2) pe_str)) (pss_cons (ps_set (i := 4) sc__law_name.nd rfl (Or.inl rfl) (pe_op op_mod (pv 1) pe_int)) (pss_cons (ps_set (i := 5) sc__law_name.nd rfl (Or.inl rfl) (pe_op op_mod (pe_op op_fdiv (pv 1) pe_int) (pe_op op_sub pe_int (pv 4)))) (pss_cons (ps_set (i := 6) sc__law_name.nd rfl (Or.inr rfl) (pe_op op_mod (pe_op op_fdiv (pv 1) pe_int) pe_int)) (pss_cut (ps_if (pt_cmpR op_eq (pe_op op_mod (pe_op op_fdiv (pv 1) pe_int) pe_int) pe_int (nomark _)) (pss_cons (ps_set (i := 6) sc__law_name.nd rfl (Or.inr rfl) (pe_op op_add (pe_op op_add (pv 6) (pe_op op_mul pe_int (pv 0))) (pe_op op_mul (pv 0) (pv 0)))) (pss_one (ps_set (i := 5) sc__law_name.nd rfl (Or.inl rfl) (pe_op op_mod (pe_op op_add (pv 5) (pv 0)) (pe_op op_sub pe_int (pv 4)))))) pss_nil) (pss_cons (ps_set (i := 7) sc__law_name.nd rfl (Or.inl rfl) (pe_op op_add_str (pe_ix ix_str (pv 2) (pe_op op_mod (pv 6) pe_int) (fun _ _ => rfl)) (pe_bm PySem.F.plainAttrs_str PySem.F.slot_str_join PySem.F.type_str_join mt_join pe_str (pa_cons (pe_lc (N := ["k", "cell", "letters", "signs", "at", "more", "seed", "word"]) (sc := defScope (top 11)) ⟨by decide +kernel, rfl, rfl, by decide +kernel, by decide +kernel, by decide +kernel, by decide +kernel⟩ rfl rfl rfl (pi_range2 rfl B.b_range (pa_cons pe_int (pa_cons pe_int pa_nil))) (fun _ _ _ _ _ => pif_nil) (fun _ _ _ _ _ => (pe_ix ix_str (pv 4) (pe_op op_mod (pe_op op_add (pv 7) (pe_op op_mul pe_int (pv 0))) pe_int) (fun _ _ => rfl)))) pa_nil)))) (pss_cons (ps_set (i := 7) sc__law_name.nd rfl (Or.inl rfl) (pe_slice sl_str (pv 7) po_none (po_some (pe_op op_add (pv 4) (pv 5))))) (pss_one (ps_ret (pe_op op_add_str (pe_op op_add_str (pe_slice sl_str (pv 7) po_none (po_some (pv 4))) (pe_ix ix_str (pv 2) (pe_op op_mod (pv 0) pe_int) (fun _ _ => rfl))) (pe_slice sl_str (pv 7) (po_some (pv 4)) po_none)))))))))))), ?_⟩
  refine ⟨_, rfl, LET, FIG, rfl, rfl, szOk (by decide +kernel), ?_⟩
  refine ⟨_, rfl, _, _, rfl, rfl, (by walk_at "side"), ?_⟩
  refine ⟨_, rfl, _, _, rfl, rfl, ⟨by decide, by decide⟩, _, rfl, _, _, rfl, rfl, _, _, rfl, rfl, (by show (0 : Int) < _; omega), ?_⟩
  refine ⟨_, rfl, _, _, rfl, rfl, ⟨by decide, by decide⟩, _, _, rfl, rfl, (by walk_at "side"), ?_⟩
  refine ⟨fun σ' H' => ∃ sd mo : Int, σ' = [some (.int k), some (.int c), some (.str LET), some (.str (LET ++ FIG)), some (.int (c % 12)), some (.int mo), some (.int sd), none] ∧ H = H' ∧ 0 ≤ mo ∧ mo < 12 - c % 12, ?_, ?_⟩
  · refine ⟨_, rfl, _, _, rfl, rfl, ⟨by decide, by decide⟩, _, _, rfl, rfl, (by walk_at "side"), rfl, _, rfl, ?_⟩
    refine ite2 (fun _ => ?_) (fun _ => ?_)
    · exact ⟨_, rfl, _, rfl, _, _, rfl, rfl, .inl ⟨by decide, by decide⟩, _, _, rfl, rfl, _, rfl, _, rfl, _, _, rfl, rfl, .inl ⟨by omega, by omega⟩, _, _, rfl, rfl, _, rfl, _, rfl, _, _, rfl, rfl, _, rfl, _, _, rfl, rfl, _, _, rfl, rfl, (by show (0 : Int) < _; omega), _, _, rfl, rfl, Int.emod_nonneg _ (by omega), Int.emod_lt_of_pos _ (by omega)⟩
    · exact ⟨_, _, rfl, rfl, Int.emod_nonneg _ (by omega), Int.emod_lt_of_pos _ (by omega)⟩
  rintro _ _ ⟨sd, mo, rfl, rfl, mo0, mo1⟩
  refine ⟨_, rfl, _, rfl, _, _, rfl, rfl, (by walk_at "side"), LET, _, _, rfl, rfl, let_ok, at_sgn2 (by omega) (by rw [let_sz]; omega), rfl, 1, 12, rfl, ⟨by decide, by decide, by decide, by decide⟩, ?_⟩
  refine comp_val (n := 11) (val := fun i => .int (1 + (i : Int))) (fun v => match v with | .int j => .str ⟨#[(LET ++ FIG).cps.getD ((sd + 7 * j) % 36).toNat 0]⟩ | v => v) (by walk_at "sz") (fun i H' hi sm R hR => ?_) (fun H' sm l hl => ?_)
  · refine ⟨rfl, _, rfl, _, rfl, _, rfl, _, _, rfl, rfl, .inl ⟨by decide, by decide⟩, _, _, rfl, rfl, _, _, rfl, rfl, (by walk_at "side"), LET ++ FIG, _, _, rfl, rfl, sgs_ok, at_sgn2 (by omega) (by rw [sgs_sz]; omega), hR _ (Same.refl _)⟩
  refine ⟨Str.ofString "", l, (List.range 11).map (sgnAt sd), rfl, rfl, .inl (.inl (by rw [upd_same, List.map_map]; rfl)), by rw [show ((List.range 11).map (sgnAt sd)).map (fun x => x.length) = (List.range 11).map (fun _ => 1) by rw [List.map_map]; rfl, List.length_map]; decide +kernel, ?_⟩
  have hj : (Txt.join (Str.ofString "") ((List.range 11).map (sgnAt sd))).length = 11 := by
    rw [PySem.W.KT.join_ones _ (fun a ha => ?_)]
    · simp
    · obtain ⟨i, _, rfl⟩ := List.mem_map.mp ha
      rfl
  generalize hJ : Txt.join (Str.ofString "") ((List.range 11).map (sgnAt sd)) = J at hj
  have sm1 := same_upd' (u := .lst ((List.range 11).map fun (i : Nat) => (fun v : V => match v with | .int j => V.str ⟨#[(LET ++ FIG).cps.getD ((sd + 7 * j) % 36).toNat 0]⟩ | v => v) (.int (1 + (i : Int))))) sm hl
  refine ⟨_, J, rfl, by rw [← hJ], ?_, ?_⟩
  · rw [one_sz, hj]; exact szOk (by decide)
  generalize hW : Str.mk #[LET.cps.getD (sd % 26).toNat 0] ++ J = W
  have lW : W.length = 12 := by rw [← hW, Str.length_append, one_sz, hj]
  refine ⟨V.str W, by rw [← hW]; rfl, _, rfl, _, rfl, _, _, rfl, rfl, _, rfl, W, rfl, szOk (by omega), ?_⟩
  have lV := Txt.slice_le W none (some (c % 12 + mo))
  generalize hV : Txt.slice W none (some (c % 12 + mo)) = V0 at lV
  refine ⟨V.str V0, by rw [← hV]; rfl, _, rfl, _, rfl, V0, rfl, szOk (by omega), ?_⟩
  have lA := Txt.slice_le V0 none (some (c % 12))
  refine ⟨_, rfl, _, rfl, _, _, rfl, rfl, (by walk_at "side"), LET, _, _, rfl, rfl, let_ok, at_sgn2 (by omega) (by rw [let_sz]; omega), _, _, rfl, rfl, ?_, ?_⟩
  · rw [one_sz]; exact szOk (by omega)
  have lB := Txt.slice_le V0 (some (c % 12)) none
  refine ⟨V.str V0, by rw [← hV]; rfl, _, rfl, _, rfl, V0, rfl, szOk (by omega), _, _, rfl, rfl, ?_, q _ _ sm1 ?_ ?_⟩
  · rw [Str.length_append, one_sz]; exact szOk (by omega)
  · rw [Str.length_append, Str.length_append, one_sz]; omega
  · rw [← hV]
    exact name_at lW (by omega) mo0 (by omega)
theorem sc__law_deeds : FnScope ["script", "many", "deeds", "cell", "mixed", "debtor", "step", "amount"] ["script", "many"] (defScope (top 12)) := ⟨rfl, rfl, rfl, by decide +kernel, rfl, by decide +kernel, by decide +kernel⟩
def sp__law_deeds (K : PySem.W.Frag) : Sp := fun vs H Q _ => ∃ (a : Addr) (ns : List Int) (m : Nat), vs = [.ref a, .int m] ∧ SqL K H a (ns.map V.int) ∧ ns.length ≤ 63 ∧ (∀ n ∈ ns, Bts n) ∧ 3 ≤ m ∧ m ≤ 8 ∧ ∀ (H' : Hp) (l : Addr) (ds : List DE), Same H H' → H l = none → H' l = some (.lst (ds.map re)) → Des m H' ds → ds.length ≤ 63 → Q (.ref l) H'
theorem ok__law_deeds (d__law_deeds : Dv K mg "_law_deeds" (top 12) ["script", "many"]) (B : Bl mg) (C : Co mg) (R : Er K mg) (d__law_cell_at : Dv K mg "_law_cell_at" (top 10) ["script", "k"]) (G__law_cell_at : FnOk P w K mg base CX0 1 d__law_cell_at.f d__law_cell_at.fd ["script", "k"] (sp__law_cell_at K)) : FnOk P w K mg base CX0 2 d__law_deeds.f d__law_deeds.fd ["script", "many"] (sp__law_deeds K) := by
  refine d__law_deeds.F.ok sc__law_deeds (fun vs H Q E h => ?_) (fun cdv A outer s H vs Q E hr h => ?_)
  · obtain ⟨_, _, _, rfl, _⟩ := h; rfl
  obtain ⟨a, ns, m, rfl, hS, hl, hB, m3, m8, q⟩ := h
  refine ⟨_, (pss_cons (ps_set (i := 2) sc__law_deeds.nd rfl (Or.inl rfl) (pe_lst pa_nil)) (pss_cons (ps_for PassesOwn.never rfl (pi_list (pe_slice sl_list (pv 0) (po_some pe_int) (po_some pe_int))) (pg_name (i := 3) sc__law_deeds.nd rfl (Or.inl rfl)) (pss_cons (ps_set (i := 4) sc__law_deeds.nd rfl (Or.inl rfl) (pe_op op_mod (pe_op op_mul (pv 3) pe_int) pe_int)) (pss_cons (ps_set (i := 5) sc__law_deeds.nd rfl (Or.inl rfl) (pe_op op_mod (pe_op op_mod (pv 4) pe_int) (pv 1))) (pss_cons (ps_set (i := 6) sc__law_deeds.nd rfl (Or.inl rfl) (pe_op op_add pe_int (pe_op op_mod (pe_op op_fdiv (pv 4) pe_int) (pe_op op_sub (pv 1) pe_int)))) (pss_cut (ps_if (PW.pt (pw_and (pt_cmpR op_eq (pe_op op_mod (pe_call G__law_cell_at (hr.mono (by decide)) rfl d__law_cell_at.m d__law_cell_at.F.kp d__law_cell_at.b .nil pass0 (pa_cons (pv 0) (pa_cons pe_int pa_nil))) pe_int) pe_int (nomark _)) (pw_and1 (pt_cmpR op_gt (pe_op op_mod (pe_op op_fdiv (pv 4) pe_int) pe_int) pe_int (nomark _))))) (pss_one (ps_set (i := 6) sc__law_deeds.nd rfl (Or.inl rfl) pe_int)) pss_nil) (pss_cons (ps_set (i := 7) sc__law_deeds.nd rfl (Or.inl rfl) (pe_op op_mod (pe_op op_fdiv (pv 4) pe_int) pe_int)) (pss_cut (ps_if (pt_cmpR op_eq (pe_op op_mod (pe_op op_fdiv (pv 4) pe_int) pe_int) pe_int (nomark _)) (pss_one (ps_set (i := 7) sc__law_deeds.nd rfl (Or.inl rfl) (pe_op op_mod (pe_op op_add (pe_op op_mulW (pv 3) (pv 3)) (pv 4)) (pe_op op_pow pe_int pe_int)))) pss_nil) (pss_one (ps_expr (pe_bm PySem.F.plainAttrs_list PySem.F.slot_list_append PySem.F.type_list_append mt_append (pv 2) (pa_cons (pe_tup (pa_cons (pv 5) (pa_cons (pe_op op_mod (pe_op op_add (pv 5) (pv 6)) (pv 1)) (pa_cons (pv 7) pa_nil)))) pa_nil))))))))))) (pss_one (ps_ret (pv 2))))), ?_⟩
  refine ⟨by walk_at "sz", fun L hL => ?_⟩
  have s1 := same_upd (u := .lst []) hL
  have kL := upd_same (H := H) (a := L) (o := .lst [])
  generalize upd H L (.lst []) = H1 at s1 kL
  refine ⟨_, rfl, _, rfl, _, rfl, a, _, rfl, s1.seq hS, fun p hp => ?_⟩
  have ec := cut_ints ns (some 2) (some 62)
  generalize hcs : (ns.drop (HT.sIx ns.length 0 (some 2))).take (HT.sIx ns.length ns.length (some 62) - HT.sIx ns.length 0 (some 2)) = cs at ec
  have hc : cs.length ≤ 63 := by rw [← hcs, List.length_take, List.length_drop]; omega
  have hcb : ∀ c ∈ cs, Bts c := fun c hc' => hB c (List.mem_of_mem_drop (List.mem_of_mem_take (hcs ▸ hc')))
  rw [ec]
  have s2 := same_upd' (u := .lst (cs.map V.int)) s1 hp
  have kp := upd_same (H := H1) (a := p) (o := .lst (cs.map V.int))
  have kL2 := at_upd (u := .lst (cs.map V.int)) kL hp
  have nLp : p ≠ L := fun z => by rw [z, kL] at hp; cases hp
  generalize upd H1 p (.lst (cs.map V.int)) = H2 at s2 kp kL2
  refine ⟨p, rfl, ⟨_, .inl (.inl kp)⟩, ?_⟩
  refine for_list (K := K) (a := p) (xs := cs.map V.int) (fun i σ H' => ∃ (ds : List DE) (v3 v4 v5 v6 v7 : Option V), Same H H' ∧ H' p = some (.lst (cs.map V.int)) ∧ H' L = some (.lst (ds.map re)) ∧ Des m H' ds ∧ ds.length = i ∧ σ = [some (.ref a), some (.int m), some (.ref L), v3, v4, v5, v6, v7]) ⟨[], none, none, none, none, none, s2, kp, kL2, (fun _ z => by cases z), rfl, rfl⟩ (fun i σ H' _ z => ?_) (fun i x σ H' hx z => ?_) (fun σ H' z => ?_)
  · obtain ⟨_, _, _, _, _, _, _, h, _⟩ := z
    exact .inl (.inl h)
  rotate_left
  · obtain ⟨ds, v3, v4, v5, v6, v7, s3, kp3, kL3, hD, hn, rfl⟩ := z
    rw [List.length_map] at hn
    exact ⟨_, rfl, q _ L ds s3 hL kL3 hD (by omega)⟩
  obtain ⟨ds, v3, v4, v5, v6, v7, s3, kp3, kL3, hD, hn, rfl⟩ := z
  obtain ⟨c, rfl, hc1⟩ := get_map_int hx
  have cb := hcb c (List.mem_of_getElem? hc1)
  have il : i < cs.length := (List.getElem?_eq_some_iff.mp hc1).1
  refine ⟨_, rfl, _, _, rfl, rfl, .inr ⟨by decide, by decide⟩, _, _, rfl, rfl, (by walk_at "side"), ?_⟩
  refine ⟨_, rfl, _, _, rfl, rfl, (by walk_at "side"), _, rfl, _, _, rfl, rfl, (by show (0 : Int) < _; omega), ?_⟩
  refine ⟨_, rfl, _, _, rfl, rfl, ⟨by decide, by decide⟩, _, rfl, _, _, rfl, rfl, _, _, rfl, rfl, (by show (0 : Int) < _; omega), _, _, rfl, rfl, ?_⟩
  dsimp only
  have mx0 : 0 ≤ c * 48271 % 2147483647 := Int.emod_nonneg _ (by decide)
  generalize c * 48271 % 2147483647 = mx at mx0
  obtain ⟨dn, ed, dl⟩ : ∃ dn : Nat, mx % 8 % (m : Int) = (dn : Int) ∧ dn < m := by
    have h1 := Int.emod_nonneg (mx % 8) (show (m : Int) ≠ 0 by omega)
    have h2 := Int.emod_lt_of_pos (mx % 8) (show (0 : Int) < m by omega)
    exact ⟨(mx % 8 % (m : Int)).toNat, by omega, by omega⟩
  rw [ed]
  have st0 : 1 ≤ 1 + mx / 8 % ((m : Int) - 1) := by have := Int.emod_nonneg (mx / 8) (show (m : Int) - 1 ≠ 0 by omega); omega
  have st1 : 1 + mx / 8 % ((m : Int) - 1) < m := by have := Int.emod_lt_of_pos (mx / 8) (show (0 : Int) < m - 1 by omega); omega
  generalize 1 + mx / 8 % ((m : Int) - 1) = sp0 at st0 st1
  refine ⟨fun σ' H2' => ∃ st : Int, 1 ≤ st ∧ st < m ∧ H' = H2' ∧ σ' = [some (.ref a), some (.int m), some (.ref L), some (.int c), some (.int mx), some (.int dn), some (.int st), v7], ?_, ?_⟩
  · refine ⟨_, rfl, a, ns, _, rfl, s3.seq hS, by decide, _, _, rfl, rfl, (by walk_at "side"), rfl, _, rfl, ite2 (fun c1 => ?_) (fun c1 => ?_)⟩
    · refine ⟨_, rfl, _, _, rfl, rfl, ⟨by decide, by decide⟩, _, _, rfl, rfl, (by walk_at "side"), _, _, rfl, rfl, _, rfl, ite2 (fun c2 => ?_) (fun c2 => ?_)⟩
      · exact ⟨1, by decide, by omega, rfl, rfl⟩
      · exact ⟨sp0, st0, st1, rfl, rfl⟩
    · exact iteF ⟨sp0, st0, st1, rfl, rfl⟩
  rintro _ _ ⟨st, t0, t1, rfl, rfl⟩
  refine ⟨_, rfl, _, _, rfl, rfl, ⟨by decide, by decide⟩, _, _, rfl, rfl, (by walk_at "side"), ?_⟩
  refine ⟨fun σ' H2' => ∃ am : Int, 0 ≤ am ∧ H' = H2' ∧ σ' = [some (.ref a), some (.int m), some (.ref L), some (.int c), some (.int mx), some (.int dn), some (.int st), some (.int am)], ?_, ?_⟩
  · refine ⟨_, rfl, _, _, rfl, rfl, ⟨by decide, by decide⟩, _, _, rfl, rfl, (by walk_at "side"), rfl, _, rfl, ite2 (fun c1 => ?_) (fun c1 => ?_)⟩
    · exact ⟨_, rfl, _, rfl, _, _, rfl, rfl, .inr ⟨cb, cb⟩, _, rfl, _, _, rfl, rfl, _, _, rfl, rfl, ⟨by decide, by decide, by decide⟩, _, _, rfl, rfl, (by show (0 : Int) < _; decide), _, Int.emod_nonneg _ (by decide), rfl, rfl⟩
    · exact ⟨_, Int.emod_nonneg _ (by decide), rfl, rfl⟩
  rintro _ _ ⟨am, am0, rfl, rfl⟩
  obtain ⟨cn, en, cl, cd⟩ : ∃ cn : Nat, ((dn : Int) + st) % (m : Int) = (cn : Int) ∧ cn < m ∧ dn ≠ cn := by
    have e : ((dn : Int) + st) % (m : Int) = if (dn : Int) + st < m then (dn : Int) + st else (dn : Int) + st - m := by
      split
      · exact Int.emod_eq_of_lt (by omega) (by assumption)
      · rw [← Int.sub_emod_right]
        exact Int.emod_eq_of_lt (by omega) (by omega)
    rw [e]
    split
    · exact ⟨((dn : Int) + st).toNat, by omega, by omega, by omega⟩
    · exact ⟨((dn : Int) + st - m).toNat, by omega, by omega, by omega⟩
  refine ⟨_, rfl, .inl ⟨rfl, _, .inl (.inl kL3)⟩, _, rfl, _, rfl, _, rfl, _, _, rfl, rfl, _, rfl, _, _, rfl, rfl, (by show (0 : Int) < _; omega), _, rfl, ?_⟩
  dsimp only
  rw [en]
  refine ⟨by walk_at "sz", fun t ht => ?_⟩
  have u1 := same_upd (u := .tup [V.int dn, V.int cn, V.int am]) ht
  refine ⟨L, _, _, rfl, rfl, u1 _ _ kL3, by rw [List.length_map]; exact szLt (by omega), ?_⟩
  refine ⟨ds ++ [(t, dn, cn, am)], _, _, _, _, _, same_updN (s3.trans u1) hL, ?_, ?_, ?_, ?_, rfl⟩
  · exact upd_oth (u1 _ _ kp3) nLp
  · rw [upd_same, List.map_append]; rfl
  · intro y hy
    have nt : t ≠ L := fun z => by rw [z, kL3] at ht; cases ht
    rcases List.mem_append.mp hy with hy | hy
    · obtain ⟨h1, h2⟩ := hD y hy
      refine ⟨upd_oth (u1 _ _ h1) fun z => ?_, h2⟩
      rw [z, kL3] at h1
      cases h1
    · rw [List.mem_singleton.mp hy]
      exact ⟨upd_oth upd_same nt, dl, cl, cd, am0⟩
  · rw [List.length_append, hn]; rfl
theorem sc__law_book : FnScope ["deeds", "names", "table", "debtor", "creditor", "amount", "one", "other", "more", "rows", "pair"] ["deeds", "names"] (defScope (top 13)) := ⟨rfl, rfl, rfl, by decide +kernel, rfl, by decide +kernel, by decide +kernel⟩
def sp__law_book (K : PySem.W.Frag) : Sp := fun vs H Q _ => ∃ (d b : Addr) (ds : List DE) (nm : List Str), vs = [.ref d, .ref b] ∧ H d = some (.lst (ds.map re)) ∧ Des nm.length H ds ∧ H b = some (.lst (nm.map V.str)) ∧ nm.Nodup ∧ nm.length ≤ 8 ∧ ds.length ≤ 63 ∧ ∀ (H' : Hp) (l : Addr) (ps : List TD), Same H H' → H l = none → H' l = some (.lst (ps.map rd)) → Tds H' ps → BOk nm ds (vD ps) → (∀ p ∈ ps, 0 < p.2.2.2) → ps.length ≤ 63 → ps.Pairwise (fun a b => lt3 a b = true) → Q (.ref l) H'
theorem ok__law_book (d__law_book : Dv K mg "_law_book" (top 13) ["deeds", "names"]) (B : Bl mg) (C : Co mg) (R : Er K mg)  : FnOk P w K mg base CX0 1 d__law_book.f d__law_book.fd ["deeds", "names"] (sp__law_book K) := by
  refine d__law_book.F.ok sc__law_book (fun vs H Q E h => ?_) (fun cdv A outer s H vs Q E hr h => ?_)
  · obtain ⟨_, _, _, _, rfl, _⟩ := h; rfl
  obtain ⟨d, b, ds, nm, rfl, hd, hDe, hb, nd, l8, l63, q⟩ := h
  refine ⟨_, (pss_cons (ps_set (i := 2) sc__law_book.nd rfl (Or.inl rfl) pe_dnewK) (pss_cons (ps_for PassesOwn.never rfl (pi_list (pv 0)) (pg_tup rfl (pgs_cons (pg_name (i := 3) sc__law_book.nd rfl (Or.inl rfl)) (pgs_cons (pg_name (i := 4) sc__law_book.nd rfl (Or.inl rfl)) (pgs_cons (pg_name (i := 5) sc__law_book.nd rfl (Or.inl rfl)) pgs_nil)))) (pss_cons (ps_set (i := 6) sc__law_book.nd rfl (Or.inl rfl) (pe_callB (call_min2 rfl) rfl B.b_min PyProof.Rows.boot_min (pa_cons (pv 3) (pa_cons (pv 4) pa_nil)))) (pss_cons (ps_set (i := 7) sc__law_book.nd rfl (Or.inl rfl) (pe_callB (call_max2 rfl) rfl B.b_max PyProof.Rows.boot_max (pa_cons (pv 3) (pa_cons (pv 4) pa_nil)))) (pss_cons (ps_set (i := 8) sc__law_book.nd rfl (Or.inl rfl) (pe_op op_mul (pv 5) (pe_op op_sub pe_int (pe_op op_mul pe_int (pe_callTy call_int1 rfl B.b_int PyProof.Rows.boot_int (pa_cons (pe_cmpR op_eq (pv 6) (pv 4) (nomark _)) pa_nil)))))) (pss_one (ps_dput (hu1 hr.units) (pv 2) (pe_op op_add (pe_op op_mul (pv 6) pe_int) (pv 7)) (pe_op op_add (pe_dget2 (hu1 hr.units) (pv 2) (pe_op op_add (pe_op op_mul (pv 6) pe_int) (pv 7)) pe_int ⟨rfl, rfl, rfl, rfl⟩) (pv 8)) rfl)))))) (pss_cons (ps_set (i := 9) sc__law_book.nd rfl (Or.inl rfl) (pe_lst pa_nil)) (pss_cons (ps_for PassesOwn.never rfl (pi_dict (pv 2)) (pg_name (i := 10) sc__law_book.nd rfl (Or.inl rfl)) (pss_cut (ps_if (pt_cmpR op_gt (pe_dget (hu1 hr.units) (pv 2) (pv 10) (fun _ _ => rfl)) pe_int (nomark _)) (pss_one (ps_expr (pe_bm PySem.F.plainAttrs_list PySem.F.slot_list_append PySem.F.type_list_append mt_append (pv 9) (pa_cons (pe_tup (pa_cons (pe_ix ix_list (pv 1) (pe_op op_fdiv (pv 10) pe_int) (fun _ _ => rfl)) (pa_cons (pe_ix ix_list (pv 1) (pe_op op_mod (pv 10) pe_int) (fun _ _ => rfl)) (pa_cons (pe_dget (hu1 hr.units) (pv 2) (pv 10) (fun _ _ => rfl)) pa_nil)))) pa_nil)))) pss_nil) (pss_one (ps_if (pt_cmpR op_lt (pe_dget (hu1 hr.units) (pv 2) (pv 10) (fun _ _ => rfl)) pe_int (nomark _)) (pss_one (ps_expr (pe_bm PySem.F.plainAttrs_list PySem.F.slot_list_append PySem.F.type_list_append mt_append (pv 9) (pa_cons (pe_tup (pa_cons (pe_ix ix_list (pv 1) (pe_op op_mod (pv 10) pe_int) (fun _ _ => rfl)) (pa_cons (pe_ix ix_list (pv 1) (pe_op op_fdiv (pv 10) pe_int) (fun _ _ => rfl)) (pa_cons (pe_un un_neg (pe_dget (hu1 hr.units) (pv 2) (pv 10) (fun _ _ => rfl))) pa_nil)))) pa_nil)))) pss_nil)))) (pss_one (ps_ret (pe_callB call_sortedD rfl B.b_sorted PyProof.Rows.boot_sorted (pa_cons (pv 9) pa_nil)))))))), ?_⟩
  refine fun D hD0 => ?_
  have fD : H D = none := hD0
  have s1 := same_upd (u := .dK []) hD0
  have kD : upd H D (.dK []) D = some (.dK (dJ [])) := upd_same
  generalize upd H D (.dK []) = H1 at s1 kD
  refine ⟨_, rfl, d, rfl, ⟨_, .inl (.inl (s1 _ _ hd))⟩, ?_⟩
  refine for_list (K := K) (a := d) (xs := ds.map re) (fun i σ H' => ∃ (T : List (Int × Int)) (v3 v4 v5 v6 v7 v8 : Option V), Same H H' ∧ H' D = some (.dK (dJ T)) ∧ TOk nm.length T ∧ T.length ≤ i ∧ (∀ k, k < nm.length → nT k T = sd k (ds.take i)) ∧ σ = [some (.ref d), some (.ref b), some (.ref D), v3, v4, v5, v6, v7, v8, none, none]) ⟨[], none, none, none, none, none, none, s1, kD, ⟨List.nodup_nil, fun _ z => by cases z⟩, Nat.le_refl _, fun _ _ => rfl, rfl⟩ (fun i σ H' _ z => ?_) (fun i x σ H' hx z => ?_) (fun σ H' z => ?_)
  · obtain ⟨_, _, _, _, _, _, _, s, _⟩ := z
    exact .inl (.inl (s _ _ hd))
  · obtain ⟨T, v3, v4, v5, v6, v7, v8, s2, kD, ok, lT, hn, rfl⟩ := z
    rw [List.getElem?_map] at hx
    obtain ⟨y, hy, rfl⟩ := Option.map_eq_some_iff.mp hx
    obtain ⟨ky, y1, y2, y3, y4⟩ := hDe y (List.mem_of_getElem? hy)
    have ky := s2 _ _ ky
    have il : i < ds.length := (List.getElem?_eq_some_iff.mp hy).1
    have st := fun k => sd_take k ds i hy
    obtain ⟨t, dn, cn, am⟩ := y
    dsimp only at ky y1 y2 y3 y4
    refine ⟨t, _, rfl, .inl (.inl ky), rfl, _, _, rfl, _, _, rfl, _, _, rfl, rfl, ?_⟩
    obtain ⟨o1, o2, mo, h12, h2m, em1, em2, hmo, hsd⟩ : ∃ (o1 o2 : Nat) (mo : Int), o1 < o2 ∧ o2 < nm.length ∧ (if (cn : Int) < (dn : Int) then (cn : Int) else (dn : Int)) = (o1 : Int) ∧ (if (cn : Int) > (dn : Int) then (cn : Int) else (dn : Int)) = (o2 : Int) ∧ am * (1 - 2 * (if decide (V.int (o1 : Int) = V.int (cn : Int)) = true then 1 else 0)) = mo ∧ ∀ k, sdF k (t, dn, cn, am) = cf k ((o1 : Int) * 26 + (o2 : Int)) * mo := by
      by_cases c : cn < dn
      · have e : decide (V.int (cn : Int) = V.int (cn : Int)) = true := decide_eq_true rfl
        refine ⟨cn, dn, -am, c, y1, if_pos (by omega), if_neg (by omega), by rw [e, if_pos rfl]; omega, fun k => ?_⟩
        rw [cf_at (by omega) (by omega)]
        unfold sdF
        dsimp only
        by_cases x : cn = k <;> by_cases z : dn = k <;> simp [x, z] <;> omega
      · have e : decide (V.int (dn : Int) = V.int (cn : Int)) = false := decide_eq_false fun z => by have := V.int.inj z; omega
        refine ⟨dn, cn, am, by omega, y2, if_neg (by omega), if_pos (by omega), by rw [e, if_neg Bool.false_ne_true]; omega, fun k => ?_⟩
        rw [cf_at (by omega) (by omega)]
        unfold sdF
        dsimp only
        by_cases x : cn = k <;> by_cases z : dn = k <;> simp [x, z] <;> omega
    refine ⟨_, rfl, _, rfl, _, _, rfl, ?_⟩
    rw [em1]
    refine ⟨_, rfl, _, rfl, _, _, rfl, ?_⟩
    rw [em2]
    refine ⟨_, rfl, _, rfl, _, rfl, rfl, .inr ⟨_, rfl, ?_⟩⟩
    obtain ⟨w1, ew, hw1⟩ : ∃ w1 : Int, (if decide (V.int (o1 : Int) = V.int (cn : Int)) = true then (1 : Int) else 0) = w1 ∧ (w1 = 0 ∨ w1 = 1) := ⟨_, rfl, by split <;> simp⟩
    rw [ew] at hmo
    rw [ew]
    refine ⟨_, _, rfl, rfl, .inr ⟨by omega, by omega⟩, _, _, rfl, rfl, _, _, rfl, rfl, .inr ⟨by omega, by omega⟩, ?_⟩
    dsimp only
    rw [hmo]
    refine ⟨_, rfl, D, rfl, .inl ⟨_, .inl kD⟩, _, rfl, _, _, rfl, rfl, .inr ⟨by decide, by decide⟩, _, rfl, _, _, rfl, rfl, _, .inl ⟨_, Sum.inl ((o1 : Int) * 26 + (o2 : Int)), .inl kD, rfl, rfl⟩, _, rfl, ?_⟩
    rw [dJ_get]
    refine ⟨_, _, rfl, rfl, _, rfl, _, rfl, _, _, rfl, rfl, .inr ⟨by decide, by decide⟩, _, rfl, _, _, rfl, rfl, D, _, rfl, .inl ⟨_, Sum.inl ((o1 : Int) * 26 + (o2 : Int)), kD, rfl, szLt (by rw [dJ_len]; omega), rfl⟩, ?_⟩
    dsimp only
    rw [dJ_put]
    have lp := putJ_len1 T ((o1 : Int) * 26 + (o2 : Int)) (hvJ T ((o1 : Int) * 26 + (o2 : Int)) + mo)
    refine ⟨_, _, _, _, _, _, _, same_updN s2 fD, upd_same, ⟨putJ_nd _ _ ok.nd, fun p hp => ?_⟩, by omega, fun k hk => ?_, rfl⟩
    · have := List.mem_map_of_mem (f := fun x : Int × Int => x.1) hp
      rcases putJ_mem.mp this with h | h
      · obtain ⟨q, hq, e⟩ := List.mem_map.mp h
        obtain ⟨a, b', h1, h2, h3⟩ := ok.ks q hq
        exact ⟨a, b', h1, h2, by rw [← h3]; exact e.symm⟩
      · exact ⟨o1, o2, h12, h2m, h⟩
    · rw [nT_put k _ _ ok.nd, hn k hk, st k, hsd k]
  obtain ⟨T, v3, v4, v5, v6, v7, v8, s2, kD, ok, lT, hn, rfl⟩ := z
  rw [List.length_map] at lT
  rw [List.length_map, List.take_length] at hn
  refine ⟨by walk_at "sz", fun L hL => ?_⟩
  have fL : H L = none := s2.free hL
  have nDL : D ≠ L := ne_of_none kD hL
  have s3 := same_upd' (u := .lst []) s2 hL
  have kL := upd_same (H := H') (a := L) (o := .lst [])
  have kD := at_upd (u := .lst []) kD hL
  generalize upd H' L (.lst []) = H3 at s3 kL kD
  refine ⟨_, rfl, D, dJ T, rfl, kD, fun ob => ?_⟩
  have s4 := same_updN (u := .frz ob (.dK (dJ T))) s3 fD
  have kL := upd_oth (u := .frz ob (.dK (dJ T))) kL (Ne.symm nDL)
  have kF := upd_same (H := H3) (a := D) (o := .frz ob (.dK (dJ T)))
  generalize upd H3 D (.frz ob (.dK (dJ T))) = H4 at s4 kL kF
  refine for_dict (d := D) (ob := ob) (kvs := dJ T) (fun i σ H' => ∃ (rs : List TD) (v10 : Option V), Same H H' ∧ H' D = some (.frz ob (.dK (dJ T))) ∧ H' L = some (.lst (rs.map rd)) ∧ Tds H' rs ∧ vD rs = (T.take i).flatMap (rw1 nm) ∧ rs.length ≤ i ∧ σ = [some (.ref d), some (.ref b), some (.ref D), v3, v4, v5, v6, v7, v8, some (.ref L), v10]) ⟨[], none, s4, kF, kL, (fun _ z => by cases z), rfl, Nat.le_refl _, rfl⟩ (fun i σ H' z => ?_) (fun i k v σ H' hx z => ?_) (fun σ H' z => ?_)
  · obtain ⟨_, _, _, h, _⟩ := z
    exact h
  · obtain ⟨rs, v10, s5, kF, kL, hT, hv, lr, rfl⟩ := z
    unfold dJ at hx
    rw [List.getElem?_map] at hx
    obtain ⟨y, hy, e⟩ := Option.map_eq_some_iff.mp hx
    cases e
    have my := List.mem_of_getElem? hy
    have dv := dJ_val ok.nd my
    obtain ⟨a, b', hab, hbm, ek⟩ := ok.ks y my
    have e1 : (y.1 / 26).toNat = a := by rw [ek]; omega
    have e2 : (y.1 % 26).toNat = b' := by rw [ek]; omega
    have ka : atI (nm.map V.str) (y.1 / 26) = some (V.str (nmA nm a)) := by
      rw [show y.1 / 26 = (a : Int) by omega]
      exact atI_nat (by rw [List.getElem?_map, nmA_get (by omega)]; rfl)
    have kb : atI (nm.map V.str) (y.1 % 26) = some (V.str (nmA nm b')) := by
      rw [show y.1 % 26 = (b' : Int) by omega]
      exact atI_nat (by rw [List.getElem?_map, nmA_get (by omega)]; rfl)
    have tk : (T.take (i + 1)).flatMap (rw1 nm) = vD rs ++ rw1 nm y := by
      rw [List.take_add_one, hy, List.flatMap_append, ← hv]
      show _ ++ (rw1 nm y ++ []) = _
      rw [List.append_nil]
    have hb5 := s5 _ _ hb
    have rl : rs.length ≤ 100 := by have := (List.getElem?_eq_some_iff.mp hy).1; omega
    have app : ∀ {Hx : Hp} {u : Addr} {x c : Str} {am : Int}, Same H Hx → Hx D = some (.frz ob (.dK (dJ T))) → Hx L = some (.lst (rs.map rd)) → Tds Hx rs → Hx u = none → Same H (upd (upd Hx u (.tup [.str x, .str c, .int am])) L (.lst (rs.map rd ++ [V.ref u]))) ∧ (upd (upd Hx u (.tup [.str x, .str c, .int am])) L (.lst (rs.map rd ++ [V.ref u]))) L = some (.lst ((rs ++ [((u, x, c, am) : TD)]).map rd)) ∧ Tds (upd (upd Hx u (.tup [.str x, .str c, .int am])) L (.lst (rs.map rd ++ [V.ref u]))) (rs ++ [((u, x, c, am) : TD)]) ∧ (upd (upd Hx u (.tup [.str x, .str c, .int am])) L (.lst (rs.map rd ++ [V.ref u]))) D = some (.frz ob (.dK (dJ T))) ∧ vD (rs ++ [((u, x, c, am) : TD)]) = vD rs ++ [(x, c, am)] := fun {Hx u x c am} sx kx kx2 hx hu => by
      have u1 := same_upd (u := .tup [V.str x, V.str c, V.int am]) hu
      have nu : u ≠ L := fun z => by rw [z, kx2] at hu; cases hu
      refine ⟨same_updN (sx.trans u1) fL, by rw [upd_same, List.map_append]; rfl, fun y hy => ?_, upd_oth (u1 _ _ kx) nDL, by unfold vD; rw [List.map_append]; rfl⟩
      rcases List.mem_append.mp hy with hy | hy
      · have h1 := hx y hy
        refine upd_oth (u1 _ _ h1) fun z => ?_
        rw [z, kx2] at h1
        cases h1
      · rw [List.mem_singleton.mp hy]
        exact upd_oth upd_same nu
    refine ⟨fun σ' H2 => ∃ rs2 : List TD, Same H H2 ∧ H2 D = some (.frz ob (.dK (dJ T))) ∧ H2 L = some (.lst (rs2.map rd)) ∧ Tds H2 rs2 ∧ ((0 < y.2 ∧ vD rs2 = vD rs ++ [(nmA nm a, nmA nm b', y.2)] ∧ rs2.length ≤ i + 1) ∨ (¬ 0 < y.2 ∧ rs2 = rs)) ∧ σ' = [some (.ref d), some (.ref b), some (.ref D), v3, v4, v5, v6, v7, v8, some (.ref L), some (.int y.1)], ?_, ?_⟩
    · refine ⟨_, rfl, _, rfl, D, _, rfl, .inl ⟨_, Sum.inl y.1, .inr ⟨ob, kF⟩, rfl, dv.symm⟩, _, _, rfl, rfl, _, rfl, ite2 (fun c => ?_) (fun c => ?_)⟩
      · have c' : 0 < y.2 := of_decide_eq_true c
        refine ⟨_, rfl, .inl ⟨rfl, _, .inl (.inl kL)⟩, _, rfl, _, rfl, _, _, rfl, rfl, ⟨by decide, by decide⟩, b, _, _, _, rfl, rfl, .inl (.inl hb5), ka, _, rfl, _, rfl, _, _, rfl, rfl, (by walk_at "side"), b, _, _, _, rfl, rfl, .inl (.inl hb5), kb, _, rfl, _, rfl, D, _, rfl, .inl ⟨_, Sum.inl y.1, .inr ⟨ob, kF⟩, rfl, dv.symm⟩, by walk_at "sz", fun u hu => ?_⟩
        obtain ⟨g1, g2, g3, g4, g5⟩ := app (x := nmA nm a) (c := nmA nm b') (am := y.2) s5 kF kL hT hu
        refine ⟨L, _, _, rfl, rfl, same_upd hu _ _ kL, by rw [List.length_map]; exact szLt (by omega), ?_⟩
        exact ⟨_, g1, g4, g2, g3, .inl ⟨c', g5, by rw [List.length_append]; show _ + 1 ≤ _; omega⟩, rfl⟩
      · have c' : ¬ 0 < y.2 := fun z => c (decide_eq_true z)
        exact ⟨rs, s5, kF, kL, hT, .inr ⟨c', rfl⟩, rfl⟩
    rintro _ H2 ⟨rs2, s6, kF2, kL2, hT2, w, rfl⟩
    have hb6 := s6 _ _ hb
    refine ⟨_, rfl, _, rfl, D, _, rfl, .inl ⟨_, Sum.inl y.1, .inr ⟨ob, kF2⟩, rfl, dv.symm⟩, _, _, rfl, rfl, _, rfl, ite2 (fun c => ?_) (fun c => ?_)⟩
    · have c' : y.2 < 0 := of_decide_eq_true c
      rcases w with ⟨w, _⟩ | ⟨_, rfl⟩
      · omega
      refine ⟨_, rfl, .inl ⟨rfl, _, .inl (.inl kL2)⟩, _, rfl, _, rfl, _, _, rfl, rfl, (by walk_at "side"), b, _, _, _, rfl, rfl, .inl (.inl hb6), kb, _, rfl, _, rfl, _, _, rfl, rfl, ⟨by decide, by decide⟩, b, _, _, _, rfl, rfl, .inl (.inl hb6), ka, _, rfl, _, rfl, D, _, rfl, .inl ⟨_, Sum.inl y.1, .inr ⟨ob, kF2⟩, rfl, dv.symm⟩, _, rfl, by walk_at "sz", fun u hu => ?_⟩
      obtain ⟨g1, g2, g3, g4, g5⟩ := app (x := nmA nm b') (c := nmA nm a) (am := -y.2) s6 kF2 kL2 hT2 hu
      refine ⟨L, _, _, rfl, rfl, same_upd hu _ _ kL2, by rw [List.length_map]; exact szLt (by omega), ?_⟩
      refine ⟨_, _, g1, g4, g2, g3, ?_, by rw [List.length_append]; show _ + 1 ≤ _; omega, rfl⟩
      rw [tk, g5]
      unfold rw1
      rw [e1, e2, if_neg (show ¬ 0 < y.2 by omega), if_pos c']
    · have c' : ¬ y.2 < 0 := fun z => c (decide_eq_true z)
      rcases w with ⟨w, g5, g6⟩ | ⟨w, rfl⟩
      · refine ⟨rs2, _, s6, kF2, kL2, hT2, ?_, g6, rfl⟩
        rw [tk, g5]
        unfold rw1
        rw [e1, e2, if_pos w]
      · refine ⟨rs2, _, s6, kF2, kL2, hT2, ?_, by omega, rfl⟩
        rw [tk]
        unfold rw1
        rw [if_neg w, if_neg c', List.append_nil]
  obtain ⟨rs, v10, s5, kF, kL, hT, hv, lr, rfl⟩ := z
  rw [dJ_len] at hv lr
  rw [List.take_length] at hv
  have ndr : (rs.map fun q : TD => (q.2.1, q.2.2.1)).Nodup := by
    have := rw_nd nd l8 ok
    rw [← hv] at this
    unfold vD at this
    rw [List.map_map] at this
    exact this
  refine ⟨_, rfl, L, rs, rfl, .inl (.inl kL), hT, ndr, by omega, fun l qs hl pm pw => ?_⟩
  have sl := same_upd (u := .lst (qs.map rd)) hl
  refine q _ l qs (s5.trans sl) (s5.free hl) upd_same (fun p hp => sl _ _ (hT p (pm.mem_iff.mp hp))) (bok_of nd l8 ok hn ?_) (fun p hp => rw1_pos (T := T) (nm := nm) (by have := pm.map (f := fun q : TD => q.2); rw [← hv]; exact this.mem_iff.mp (List.mem_map.mpr ⟨p, hp, rfl⟩))) (by rw [pm.length_eq]; omega) pw
  rw [← hv]
  exact pm.map _
theorem sc_ranks : FnScope ["book", "ways", "known", "ready", "debtor", "creditor"] ["book"] (defScope (top 6)) := ⟨rfl, rfl, rfl, by decide +kernel, rfl, by decide +kernel, by decide +kernel⟩
def sp_ranks (K : PySem.W.Frag) : Sp := fun vs H Q _ => ∃ (b : Addr) (ps : List TD) (nm : List Str), vs = [.ref b] ∧ H b = some (.lst (ps.map rd)) ∧ Tds H ps ∧ ps.length ≤ 600 ∧ (vD ps).Pairwise S3 ∧ (∀ p ∈ ps, p.2.1 ∈ nm ∧ p.2.2.1 ∈ nm) ∧ nm.length ≤ 60 ∧ Acy (outsP (bld (vD ps))) ∧ ∀ (H' : Hp) (l : Addr) (qs : List T2) (ms : List Str) (ρ : Str → Int), Same H H' → H' l = some (.lst (qs.map r2)) → T2s H' qs → v2 qs = ms.map (fun n => (n, ρ n)) → ms.Perm ((bld (vD ps)).map (·.1)) → ms.Pairwise klt → (∀ p ∈ vD ps, ρ p.1 + 1 ≤ ρ p.2.1) → (∀ c, ρ c = 0 ∨ ∃ p ∈ vD ps, p.2.1 = c ∧ ρ c = ρ p.1 + 1) → Q (.ref l) H'
theorem ok_ranks (d_ranks : Dv K mg "ranks" (top 6) ["book"]) (B : Bl mg) (C : Co mg) (R : Er K mg) (d_Ways___init__ : L2.Mv K "__init__" "Ways.__init__" (sub 4 0) ["self", "book"]) (G_Ways___init__ : FnOk P w K mg base CX0 1 d_Ways___init__.f d_Ways___init__.fd ["self", "book"] (sp_Ways___init__ R.c_Ways)) (d_Ways_names : L2.Mv K "names" "Ways.names" (sub 4 1) ["self"]) (G_Ways_names : FnOk P w K mg base CX0 1 d_Ways_names.f d_Ways_names.fd ["self"] (sp_Ways_names R.c_Ways)) (d_Ways_is_owed : L2.Mv K "is_owed" "Ways.is_owed" (sub 4 2) ["self", "who"]) (G_Ways_is_owed : FnOk P w K mg base CX0 1 d_Ways_is_owed.f d_Ways_is_owed.fd ["self", "who"] (sp_Ways_is_owed R.c_Ways)) (d_Ways_leave : L2.Mv K "leave" "Ways.leave" (sub 4 4) ["self", "debtor"]) (G_Ways_leave : FnOk P w K mg base CX0 1 d_Ways_leave.f d_Ways_leave.fd ["self", "debtor"] (sp_Ways_leave R.c_Ways)) (M_Ways_names : Meth K R.c_Ways "names" d_Ways_names.f) (M_Ways_is_owed : Meth K R.c_Ways "is_owed" d_Ways_is_owed.f) (M_Ways_leave : Meth K R.c_Ways "leave" d_Ways_leave.f) (MK_Ways : Mk K R.c_Ways d_Ways___init__.f) : FnOk P w K mg base (CXb P w) 3 d_ranks.f d_ranks.fd ["book"] (sp_ranks K) := by
  refine d_ranks.F.okx sc_ranks (fun vs H Q E h => ?_) (fun cdv A outer s H vs Q E hr h => ?_)
  · obtain ⟨_, _, _, rfl, _⟩ := h; rfl
  obtain ⟨b, ps, nm, rfl, hb, hD, hl, pwv, mem, m60, acy, q⟩ := h
  refine ⟨_, (pss_cons (ps_set (i := 1) sc_ranks.nd rfl (Or.inr rfl) (pe_make MK_Ways G_Ways___init__ (hr.mono (by decide)) rfl R.m_Ways d_Ways___init__.b .nil pass0 (pa_cons (pv 0) pa_nil))) (pss_cons (ps_set (i := 2) sc_ranks.nd rfl (Or.inl rfl) (pe_callTy (call_dictK rfl) rfl B.b_dict PyProof.Rows.boot_dict (pa_cons (pe_lc (N := ["book", "ways", "known", "ready", "debtor", "creditor"]) (sc := defScope (top 6)) ⟨by decide +kernel, rfl, rfl, by decide +kernel, by decide +kernel, by decide +kernel, by decide +kernel⟩ rfl rfl rfl (pi_list (pe_meth0 (pv 1) R.cl_Ways M_Ways_names G_Ways_names (hr.mono (by decide)) d_Ways_names.b .nil pass0)) (fun _ _ _ _ _ => pif_nil) (fun _ _ _ _ _ => (pe_tup (pa_cons (pv 0) (pa_cons pe_int pa_nil))))) pa_nil))) (pss_cons (ps_lc (i := 3) sc_ranks.nd rfl rfl (N := ["book", "ways", "known", "ready", "debtor", "creditor"]) (sc := defScope (top 6)) ⟨by decide +kernel, rfl, rfl, by decide +kernel, by decide +kernel, by decide +kernel, by decide +kernel⟩ rfl rfl rfl (pi_list (pe_meth0 (pv 1) R.cl_Ways M_Ways_names G_Ways_names (hr.mono (by decide)) d_Ways_names.b .nil pass0)) (fun _ _ _ _ _ => (pif_one (pt_not (pt_val (pe_meth (pv 2) R.cl_Ways M_Ways_is_owed G_Ways_is_owed (hr.mono (by decide)) d_Ways_is_owed.b .nil pass0 (pa_cons (pv 0) pa_nil)) (fun _ => rfl))))) (fun _ _ _ _ _ => (pv 0))) (pss_cons (PS.calm (ps_while PassesOwn.never (pt_cmpR op_gt (pe_callB call_len_seq rfl B.b_len PySem.boot_len (pa_cons (pv 3) pa_nil)) pe_int (nomark _)) (pss_cons (ps_set (i := 4) sc_ranks.nd rfl (Or.inl rfl) (pe_bm0 PySem.F.plainAttrs_list PySem.F.slot_list_pop PySem.F.type_list_pop mt_pop (pv 3))) (pss_one (ps_for PassesOwn.never rfl (pi_list (pe_meth (pv 1) R.cl_Ways M_Ways_leave G_Ways_leave (hr.mono (by decide)) d_Ways_leave.b .nil pass0 (pa_cons (pv 4) pa_nil))) (pg_name (i := 5) sc_ranks.nd rfl (Or.inl rfl)) (pss_cons (ps_dput (hu1 hr.units) (pv 2) (pv 5) (pe_callB (call_max2 rfl) rfl B.b_max PyProof.Rows.boot_max (pa_cons (pe_dget (hu1 hr.units) (pv 2) (pv 5) (fun _ _ => rfl)) (pa_cons (pe_op op_add (pe_dget (hu1 hr.units) (pv 2) (pv 4) (fun _ _ => rfl)) pe_int) pa_nil))) rfl) (pss_one (ps_if (pt_not (pt_val (pe_meth (pv 1) R.cl_Ways M_Ways_is_owed G_Ways_is_owed (hr.mono (by decide)) d_Ways_is_owed.b .nil pass0 (pa_cons (pv 5) pa_nil)) (fun _ => rfl))) (pss_one (ps_expr (pe_bm PySem.F.plainAttrs_list PySem.F.slot_list_append PySem.F.type_list_append mt_append (pv 3) (pa_cons (pv 5) pa_nil)))) pss_nil)))))))) (pss_cons (ps_if (pt_val (pe_callB (call_any rfl) rfl B.b_any PyProof.Rows.boot_any (pa_cons (pe_lc (N := ["book", "ways", "known", "ready", "debtor", "creditor"]) (sc := defScope (top 6)) ⟨by decide +kernel, rfl, rfl, by decide +kernel, by decide +kernel, by decide +kernel, by decide +kernel⟩ rfl rfl rfl (pi_list (pe_meth0 (pv 1) R.cl_Ways M_Ways_names G_Ways_names (hr.mono (by decide)) d_Ways_names.b .nil pass0)) (fun _ _ _ _ _ => pif_nil) (fun _ _ _ _ _ => (pe_meth (pv 2) R.cl_Ways M_Ways_is_owed G_Ways_is_owed (hr.mono (by decide)) d_Ways_is_owed.b .nil pass0 (pa_cons (pv 0) pa_nil)))) pa_nil)) (fun _ => rfl)) (pss_one (ps_raise raises_fn rfl rfl R.m_Ring R.x_Ring (pa_cons pe_str pa_nil))) pss_nil) (pss_one (ps_ret (pe_srtItems rfl rfl B.b_sorted (pv 2))))))))), ?_⟩
  refine ⟨_, rfl, fun x dx hx0 hdx ndx => ?_⟩
  have sA := same_upd' (u := .ins R.c_Ways dx []) (same_upd (u := .own x) hdx) (by rw [upd_ne ndx.symm]; exact hx0)
  have nbx : ∀ {z : Addr} {o : HO}, H z = some o → z ≠ x := fun {z o} hz e => by rw [e, hx0] at hz; cases hz
  refine ⟨x, dx, b, ps, rfl, upd_same, sA _ _ hb, fun p hp => sA _ _ (hD p hp), hl, fun H3 dc dO gs wy eg fr fc fo fl => ?_⟩
  have s3 : Same H H3 := fun z o hz => fr z o (nbx hz) (sA _ _ hz)
  have fc : H dc = none := sA.free fc
  have fo : H dO = none := sA.free fo
  have fl : ∀ e ∈ gs, H e.2.1 = none := fun e he => sA.free (fl e he)
  have nmg : gs.map (·.1) = (bld (vD ps)).map (·.1) := by rw [← eg, gv_names]
  have lg : gs.length < 64 := by
    have h1 := congrArg List.length nmg
    rw [List.length_map, List.length_map] at h1
    have := bld_len (vs := vD ps) (nm := nm) fun p hp => by
      obtain ⟨z, hz, rfl⟩ := List.mem_map.mp hp
      exact mem z hz
    omega
  have og : outs gs = outsP (bld (vD ps)) := by unfold outs; rw [eg]
  have memg : ∀ z y, y ∈ outsP (bld (vD ps)) z → z ∈ gs.map (·.1) ∧ y ∈ gs.map (·.1) := fun z y hy => by
    have a1 : z ∈ gs.map (·.1) := by
      rw [nmg]
      by_cases c : z ∈ (bld (vD ps)).map (·.1)
      · exact c
      · rw [outsP_not c] at hy; cases hy
    refine ⟨a1, ?_⟩
    obtain ⟨e, he, ee⟩ := List.mem_map.mp a1
    rw [← og, ← ee, outs_of wy.nd he] at hy
    exact wy.cl e he _ hy
  clear fr sA
  obtain ⟨dx1, hx1⟩ := wy.ins
  refine ⟨rfl, ?_⟩
  refine ⟨_, rfl, x, dx1, _, rfl, hx1, rfl, x, dc, dO, gs, rfl, wy, lg, fun H4 l ms s4 fl4 kl pm pw => ⟨l, rfl, ⟨_, .inl (.inl kl)⟩, ?_⟩⟩
  have ndm : ms.Nodup := pw.imp fun {a b} k => klt_ne k
  have lm : ms.length < 64 := by rw [pm.length_eq, List.length_map]; exact lg
  refine comp_inv (K := K) (a := l) (ps := ms) (r := V.str) (fun i ys H' => Same H4 H' ∧ ∃ ts : List Addr, ys = ts.map V.ref ∧ ts.length = i ∧ Paired (fun t (p : Key × V) => H' t = some (.tup [kV p.1, p.2])) ts (kvM (ms.take i) fun _ => 0)) ⟨Same.refl _, [], rfl, rfl, .nil⟩ (fun i ys H' z => .inl (.inl (z.1 _ _ kl))) (fun i ys H' z => by obtain ⟨_, ts, rfl, e, _⟩ := z; rw [List.length_map, e]; exact Nat.le_refl _) (szOk (by omega)) (fun i y ys H' hy z => ?_) (fun ys H5 z => ?_)
  · obtain ⟨s5, ts, rfl, et, pt⟩ := z
    refine ⟨rfl, _, rfl, by walk_at "sz", fun t ht => ?_⟩
    have st := same_upd (u := .tup [V.str y, V.int 0]) ht
    refine ⟨s5.trans st, ts ++ [t], by rw [List.map_append]; rfl, by rw [List.length_append, et]; rfl, ?_⟩
    have e : kvM (ms.take (i + 1)) (fun _ => 0) = kvM (ms.take i) (fun _ => 0) ++ [(Sum.inr y, V.int 0)] := by unfold kvM; rw [List.take_add_one, hy, List.map_append]; rfl
    rw [e]
    exact (Paired.mapP pt fun _ _ h => st _ _ h).snoc upd_same
  obtain ⟨s5, ts, rfl, et, pt⟩ := z
  rw [List.take_length] at pt
  intro lL hlL
  have s6 := same_upd' (u := .lst (ts.map V.ref)) s5 hlL
  have kL : upd H5 lL (.lst (ts.map V.ref)) lL = some (.lst (ts.map V.ref)) := upd_same
  have pt := Paired.mapP pt fun _ _ h => same_upd (u := .lst (ts.map V.ref)) hlL _ _ h
  generalize upd H5 lL (.lst (ts.map V.ref)) = H6 at s6 kL pt
  refine ⟨lL, ts, _, rfl, kL, pt, ?_, fun dk hdk => ?_⟩
  · unfold kvM
    rw [List.map_map]
    show List.Pairwise (· ≠ ·) _
    rw [List.pairwise_map]
    exact ndm.imp fun {a b} h z => h (Sum.inr.inj z)
  have s46 := s4.trans s6
  have wy6 := wy.same s46
  have s7 := same_upd (u := .dK (kvM ms fun _ => 0)) hdk
  have kk : upd H6 dk (.dK (kvM ms fun _ => 0)) dk = some (.dK (kvM ms fun _ => 0)) := upd_same
  have ndc : dk ≠ dc := fun z => by have := wy6.cr; rw [← z, hdk] at this; cases this
  have ndO : dk ≠ dO := fun z => by have := wy6.ow; rw [← z, hdk] at this; cases this
  have fdk : H dk = none := (s3.trans s46).free hdk
  have sm7 := (s3.trans s46).trans s7
  have wy7 := wy6.same s7
  generalize upd H6 dk (.dK (kvM ms fun _ => 0)) = H7 at s7 kk sm7 wy7
  clear pt kL hlL hdk s7 wy6 s46 s6 s5 et
  obtain ⟨dx7, hx7⟩ := wy7.ins
  refine ⟨_, rfl, x, dx7, _, rfl, hx7, rfl, x, dc, dO, gs, rfl, wy7, lg, fun H8 l2 ms2 s8 fl8 kl8 pm2 pw2 => ⟨l2, rfl, ⟨_, .inl (.inl kl8)⟩, ?_⟩⟩
  cases srt_uniq (pm2.trans pm.symm) pw2 pw
  have wy8 := wy7.same s8
  have inG : ∀ {n : Str}, n ∈ ms → n ∈ gs.map (·.1) := fun h => pm.mem_iff.mp h
  refine comp_map (fun n : Str => !decide (0 < indeg gs n)) V.str (.inl (.inl kl8)) (szOk (by omega)) (fun n H' hn sm R R0 h1 h0 => ?_) (fun H9 s9 ry hry => ?_)
  · obtain ⟨dx', hx'⟩ := (wy8.same sm).ins
    refine ⟨rfl, _, rfl, x, dx', _, rfl, hx', rfl, _, rfl, x, dc, dO, gs, n, rfl, wy8.same sm, inG hn, _, rfl, ?_⟩
    refine ite2 (fun c => ?_) (fun c => ?_)
    · exact ⟨_, rfl, h1 c _ (Same.refl _)⟩
    · exact h0 (by simpa using c) _ (Same.refl _)
  have fry : H ry = none := ((sm7.trans s8).trans s9).free hry
  have sT := same_upd (u := .lst ((ms.filter fun n => !decide (0 < indeg gs n)).map V.str)) hry
  have wyT := (wy8.same s9).same sT
  have nry : ∀ {z : Addr} {o : HO}, H9 z = some o → z ≠ ry := fun {z o} hz e => by rw [e, hry] at hz; cases hz
  have rk0 : RK R.c_Ways H (upd H9 ry (.lst ((ms.filter fun n => !decide (0 < indeg gs n)).map V.str))) x dc dO dk ry ms (gs.map (·.1)) (outsP (bld (vD ps))) [] (ms.filter fun n => !decide (0 < indeg gs n)) (fun _ => 0) gs := by
    refine ⟨((sm7.trans s8).trans s9).trans sT, wyT, rfl, fun e he => ⟨fl e he, nry ((wy8.same s9).ls e he)⟩, sT _ _ (s9 _ _ (s8 _ _ kk)), upd_same, ?_, KW.start (fun x hx => (List.mem_filter.mp hx).1) (ndm.filter _) (fun z hz d hd => ?_) (fun z hz hn => ?_)⟩
    · rw [og]; funext z; exact (rst_out List.not_mem_nil).symm
    · have h1 := (List.mem_filter.mp hz).2
      have : 0 < indeg gs z := (indeg_pos wy.nd).mpr ⟨d, by rw [og]; exact hd⟩
      rw [decide_eq_true this] at h1
      cases h1
    · have h1 : 0 < indeg gs z := Classical.byContradiction fun c => hn (List.mem_filter.mpr ⟨hz, by rw [decide_eq_false c]; rfl⟩)
      obtain ⟨d, hd⟩ := (indeg_pos wy.nd).mp h1
      rw [og] at hd
      exact ⟨d, hd⟩
  generalize upd H9 ry (.lst ((ms.filter fun n => !decide (0 < indeg gs n)).map V.str)) = HA at rk0
  clear sT wyT nry hry s9 kl8 fl8 s8 wy8 hx7 kk wy7 sm7 kl fl4 s4
  have hH : ∀ {z : Addr} {o : HO}, H z = some o → z ≠ dc ∧ z ≠ dO ∧ z ≠ dk ∧ z ≠ ry := fun {z o} hz => ⟨(fun e => by rw [e, fc] at hz; cases hz), (fun e => by rw [e, fo] at hz; cases hz), (fun e => by rw [e, fdk] at hz; cases hz), (fun e => by rw [e, fry] at hz; cases hz)⟩
  refine ⟨fun m σ' H' => ∃ (Pd Rd : List Str) (ρ : Str → Int) (gi : List GE) (v4 v5 : Option V), m = ms.length - Pd.length ∧ σ' = [some (.ref b), some (.ref x), some (.ref dk), some (.ref ry), v4, v5] ∧ RK R.c_Ways H H' x dc dO dk ry ms (gs.map (·.1)) (outsP (bld (vD ps))) Pd Rd ρ gi, ⟨_, [], _, _, gs, none, none, rfl, rfl, rk0⟩, ?_⟩
  clear rk0
  rintro m _ HZ ⟨Pd, Rd, ρ, gi, v4, v5, rfl, rfl, rk⟩
  refine ⟨_, rfl, ry, _, rfl, .inl (.inl (.inl rk.kr)), _, _, rfl, rfl, _, rfl, ?_⟩
  rcases List.eq_nil_or_concat Rd with rfl | ⟨Rd', d, rfl⟩
  · refine ite2 (fun c => absurd (of_decide_eq_true c) (by simp)) (fun _ => ?_)
    have all := rk.kw.done acy (fun z y hy => pm.mem_iff.mpr (memg z y hy).1)
    have ind0 : ∀ n, ¬ 0 < indeg gi n := fun n h => by
      obtain ⟨y, hy⟩ := (indeg_pos rk.wy.nd).mp h
      rw [rk.og] at hy
      obtain ⟨h1, h2⟩ := rst_mem hy
      exact h1 (all y (pm.mem_iff.mpr (memg y n h2).1))
    have lgi : gi.length < 64 := by have := congrArg List.length rk.nm; rw [List.length_map, List.length_map] at this; omega
    obtain ⟨dxz, hxz⟩ := rk.wy.ins
    refine ⟨_, rfl, x, dxz, _, rfl, hxz, rfl, x, dc, dO, gi, rfl, rk.wy, lgi, fun H8 l3 ms3 s8 fl8 kl8 pm3 pw3 => ⟨l3, rfl, ⟨_, .inl (.inl kl8)⟩, ?_⟩⟩
    have wy8 := rk.wy.same s8
    have lm3 : ms3.length < 64 := by rw [pm3.length_eq, List.length_map]; exact lgi
    refine comp_all (K := K) (a := l3) (ps := ms3) (r := V.str) (fun n => V.bl (decide (0 < indeg gi n))) (.inl (.inl kl8)) (szOk (by omega)) (fun n H' hn sm R hR => ?_) (fun H9 s9 la hla => ?_)
    · obtain ⟨dx', hx'⟩ := (wy8.same sm).ins
      exact ⟨rfl, _, rfl, x, dx', _, rfl, hx', rfl, _, rfl, x, dc, dO, gi, n, rfl, wy8.same sm, pm3.mem_iff.mp hn, hR _ (Same.refl _)⟩
    have sB := same_upd (u := .lst (ms3.map fun n => V.bl (decide (0 < indeg gi n)))) hla
    have kb : upd H9 la (.lst (ms3.map fun n => V.bl (decide (0 < indeg gi n)))) la = some (.lst ((ms3.map fun n => decide (0 < indeg gi n)).map V.bl)) := by rw [upd_same, List.map_map]; rfl
    have smB := (s8.trans s9).trans sB
    generalize upd H9 la (.lst (ms3.map fun n => V.bl (decide (0 < indeg gi n)))) = HC at sB kb smB
    have eany : (ms3.map fun n => decide (0 < indeg gi n)).any id = false := by
      rw [List.any_eq_false]
      intro z hz
      obtain ⟨n, _, rfl⟩ := List.mem_map.mp hz
      rw [decide_eq_false (ind0 n)]
      exact Bool.false_ne_true
    refine ⟨la, _, rfl, .inl (.inl kb), ?_⟩
    rw [eany]
    refine ⟨_, rfl, iteF ?_⟩
    refine ⟨_, rfl, dk, ms.map (fun n => (n, V.int (ρ n))), rfl, by rw [smB _ _ rk.kk]; unfold kvM; rw [List.map_map]; rfl, by rw [List.length_map]; exact lm, fun H2 lr ts2 qs s2 pmq pwq klr prq flr => ?_⟩
    have em : (ms.map fun n => (n, V.int (ρ n))) = (ms.map fun n => (n, ρ n)).map fun p => (p.1, V.int p.2) := by rw [List.map_map]; rfl
    rw [em] at pmq
    obtain ⟨rs, prm, rfl⟩ := perm_fI pmq
    obtain ⟨us, e1, e2, e3⟩ := paired_t2 prq
    refine q _ lr us ms ρ (rk.sm.trans (smB.trans s2)) (by rw [e1]; exact klr) e2 ?_ (by rw [← nmg]; exact pm) pw (fun p hp => ?_) (fun c => ?_)
    · rw [e3]
      have pw2 := List.pairwise_map.mp pwq
      refine ks_ext (show rs.Pairwise KS from pw2) (List.pairwise_map.mpr (pw.imp fun {a b} h => h)) fun v => prm.mem_iff
    · have hm : p.2.1 ∈ outsP (bld (vD ps)) p.1 := (bld_edge _ _ _).mpr ⟨p, hp, rfl, rfl⟩
      exact rk.kw.le p.1 (all p.1 (pm.mem_iff.mpr (memg _ _ hm).1)) p.2.1 hm
    · rcases rk.kw.ex c with z | ⟨e, _, h1, h2⟩
      · exact .inl z
      · obtain ⟨p, hp, p1, p2⟩ := (bld_edge _ _ _).mp h1
        exact .inr ⟨p, hp, p2, by rw [p1]; exact h2⟩
  rw [List.concat_eq_append] at rk ⊢
  refine ite2 (fun _ => ?_) (fun c => absurd (decide_eq_true (by rw [List.length_map, List.length_append]; show (0 : Int) < ((_ + 1 : Nat) : Int); omega)) c)
  refine ⟨fun σ' H' => ∃ m', m' < ms.length - Pd.length ∧ ∃ (Pd Rd : List Str) (ρ : Str → Int) (gi : List GE) (v4 v5 : Option V), m' = ms.length - Pd.length ∧ σ' = [some (.ref b), some (.ref x), some (.ref dk), some (.ref ry), v4, v5] ∧ RK R.c_Ways H H' x dc dO dk ry ms (gs.map (·.1)) (outsP (bld (vD ps))) Pd Rd ρ gi, fun _ _ z => z, ?_⟩
  have kr : HZ ry = some (.lst (Rd'.map V.str ++ [V.str d])) := by have := rk.kr; rw [List.map_append] at this; exact this
  refine ⟨_, rfl, .inl ⟨rfl, _, .inl (.inl kr)⟩, ry, _, _, rfl, rfl, kr, List.getElem?_concat_length', ?_⟩
  rw [List.dropLast_concat]
  have dm : d ∈ ms := rk.kw.sub d (List.mem_append_right _ (List.mem_append_right _ List.mem_cons_self))
  have dP : d ∉ Pd := fun z => (List.nodup_append.mp rk.kw.nd).2.2 d z d (List.mem_append_right _ List.mem_cons_self) rfl
  have dg : d ∉ outsP (bld (vD ps)) d := fun z => dP (rk.kw.pre d (List.mem_append_right _ (List.mem_append_right _ List.mem_cons_self)) d z)
  have gnd : (outsP (bld (vD ps)) d).Nodup := (s3_srt pwv d).imp fun {a b} k => klt_ne k
  have len1 : Pd.length + (Rd'.length + 1) ≤ ms.length := by have := nd_le' rk.kw.nd (m := ms) rk.kw.sub; rw [List.length_append, List.length_append] at this; exact this
  have cN : ∀ c ∈ outsP (bld (vD ps)) d, c ∈ ms := fun c hc => pm.mem_iff.mpr (memg d c hc).2
  have lgd := nd_le' gnd (m := ms) cN
  obtain ⟨dxz, hxz⟩ := rk.wy.ins
  have nrx : ry ≠ x := fun z => by rw [z, hxz] at kr; cases kr
  have nrc : ry ≠ dc := fun z => by rw [z, rk.wy.cr] at kr; cases kr
  have nrO : ry ≠ dO := fun z => by rw [z, rk.wy.ow] at kr; cases kr
  have nrk : ry ≠ dk := fun z => by rw [z, rk.kk] at kr; cases kr
  have wyA : Ways R.c_Ways (upd HZ ry (.lst (Rd'.map V.str))) x dc dO gi := rk.wy.fr (fun o h => upd_oth h nrx.symm) (fun o h => upd_oth h nrc.symm) (fun o h => upd_oth h nrO.symm) (fun e he o h => upd_oth h (rk.fb e he).2)
  have kkA : upd HZ ry (.lst (Rd'.map V.str)) dk = some (.dK (kvM ms ρ)) := upd_oth rk.kk nrk.symm
  have krA : upd HZ ry (.lst (Rd'.map V.str)) ry = some (.lst (Rd'.map V.str)) := upd_same
  have smA : Same H (upd HZ ry (.lst (Rd'.map V.str))) := same_updN rk.sm fry
  generalize upd HZ ry (.lst (Rd'.map V.str)) = H1 at wyA kkA krA smA
  obtain ⟨dxa, hxa⟩ := wyA.ins
  refine ⟨_, rfl, x, dxa, _, rfl, hxa, rfl, _, rfl, x, dc, dO, gi, d, rfl, wyA, by rw [rk.nm]; exact inG dm, fun H2 ll g2 w2 n2 o2 f2 a2 lm2 kl2 => ⟨ll, rfl, ⟨_, .inl (.inl kl2)⟩, ?_⟩⟩
  rw [rk.og, rst_out dP] at kl2
  rw [rk.og, rst_cons] at o2
  have sm2 : Same H H2 := fun z o hz => f2 z o (hH hz).1 (hH hz).2.1 (smA _ _ hz)
  have kk2 := f2 _ _ ndc ndO kkA
  have kr2 := f2 _ _ nrc nrO krA
  have fb2 : ∀ e ∈ g2, H e.2.1 = none ∧ e.2.1 ≠ ry := fun e he => by
    rcases a2 e he with z | z
    · obtain ⟨f, hf, ef⟩ := List.mem_map.mp z
      rw [← ef]; exact rk.fb f hf
    · exact ⟨smA.free z, fun e2 => by rw [e2, krA] at z; cases z⟩
  have llr : ll ≠ ry := by obtain ⟨f, hf, ef⟩ := List.mem_map.mp lm2; rw [← ef]; exact (rk.fb f hf).2
  have llk : ll ≠ dk := fun z => by rw [z, kk2] at kl2; cases kl2
  have hf : ∀ c, (!decide (0 < indeg g2 c)) = true ↔ ∀ e, c ∈ outsP (bld (vD ps)) e → e = d ∨ e ∈ Pd := fun c => by
    have hp := indeg_pos (n := c) w2.nd
    constructor
    · intro h e he
      refine Classical.byContradiction fun no => ?_
      have : 0 < indeg g2 c := hp.mpr ⟨e, by rw [o2, rst_out fun z => no (List.mem_cons.mp z)]; exact he⟩
      rw [decide_eq_true this] at h
      cases h
    · intro h
      have : ¬ 0 < indeg g2 c := fun z => by
        obtain ⟨e, he⟩ := hp.mp z
        rw [o2] at he
        obtain ⟨h1, h2⟩ := rst_mem he
        exact h1 (List.mem_cons.mpr (h e h2))
      rw [decide_eq_false this]; rfl
  refine for_list (K := K) (a := ll) (xs := (outsP (bld (vD ps)) d).map V.str) (fun i σ H' => Same H H' ∧ Ways R.c_Ways H' x dc dO g2 ∧ H' ll = some (.lst ((outsP (bld (vD ps)) d).map V.str)) ∧ H' dk = some (.dK (kvM ms (upR (outsP (bld (vD ps))) d ρ ((outsP (bld (vD ps)) d).take i)))) ∧ H' ry = some (.lst ((Rd' ++ ((outsP (bld (vD ps)) d).take i).filter fun c => !decide (0 < indeg g2 c)).map V.str)) ∧ ∃ v5, σ = [some (.ref b), some (.ref x), some (.ref dk), some (.ref ry), some (.str d), v5]) ⟨sm2, w2, kl2, ?_, ?_, _, rfl⟩ (fun i σ H' _ z => .inl (.inl z.2.2.1)) (fun i y σ H' hy z => ?_) (fun σ H' z => ?_)
  · have e : upR (outsP (bld (vD ps))) d ρ ((outsP (bld (vD ps)) d).take 0) = ρ := by funext z; unfold upR; rw [List.take_zero, if_neg List.not_mem_nil]
    rw [e]; exact kk2
  · rw [List.take_zero, List.filter_nil, List.append_nil]; exact kr2
  · obtain ⟨s4, w4, kl4, kk4, kr4, v5, rfl⟩ := z
    rw [List.getElem?_map] at hy
    obtain ⟨c, hc, rfl⟩ := Option.map_eq_some_iff.mp hy
    have ci := (List.getElem?_eq_some_iff.mp hc).1
    have cm := cN c (List.mem_of_getElem? hc)
    have lk : (kvM ms (upR (outsP (bld (vD ps))) d ρ ((outsP (bld (vD ps)) d).take i))).length ≤ 1000 := by unfold kvM; rw [List.length_map]; omega
    refine ⟨_, rfl, _, rfl, dk, _, rfl, .inl ⟨_, Sum.inr c, .inl kk4, rfl, (kvM_val ndm cm).symm⟩, _, rfl, _, rfl, dk, _, rfl, .inl ⟨_, Sum.inr d, .inl kk4, rfl, (kvM_val ndm dm).symm⟩, _, _, rfl, rfl, _, _, rfl, _, rfl, _, rfl, dk, _, rfl, .inl ⟨_, Sum.inr c, kk4, rfl, szLt (by omega), rfl⟩, ?_⟩
    dsimp only
    rw [kvM_put cm, up_step hc gnd dg]
    have nkx : dk ≠ x := fun z => by obtain ⟨_, h⟩ := w4.ins; rw [z, h] at kk4; cases kk4
    have w5 : Ways R.c_Ways (upd H' dk (.dK (kvM ms (upR (outsP (bld (vD ps))) d ρ ((outsP (bld (vD ps)) d).take (i + 1)))))) x dc dO g2 := w4.fr (fun o h => upd_oth h nkx.symm) (fun o h => upd_oth h ndc.symm) (fun o h => upd_oth h ndO.symm) (fun e he o h => upd_oth h fun z => by have := w4.ls e he; rw [z, kk4] at this; cases this)
    have kk5 : upd H' dk (.dK (kvM ms (upR (outsP (bld (vD ps))) d ρ ((outsP (bld (vD ps)) d).take (i + 1))))) dk = _ := upd_same
    have s5 : Same H (upd H' dk (.dK (kvM ms (upR (outsP (bld (vD ps))) d ρ ((outsP (bld (vD ps)) d).take (i + 1)))))) := same_updN s4 fdk
    have kl5 := upd_oth (u := .dK (kvM ms (upR (outsP (bld (vD ps))) d ρ ((outsP (bld (vD ps)) d).take (i + 1))))) kl4 llk
    have kr5 := upd_oth (u := .dK (kvM ms (upR (outsP (bld (vD ps))) d ρ ((outsP (bld (vD ps)) d).take (i + 1))))) kr4 nrk
    generalize upd H' dk (.dK (kvM ms (upR (outsP (bld (vD ps))) d ρ ((outsP (bld (vD ps)) d).take (i + 1))))) = H5 at w5 kk5 s5 kl5 kr5
    obtain ⟨dx5, hx5⟩ := w5.ins
    refine ⟨_, rfl, x, dx5, _, rfl, hx5, rfl, _, rfl, x, dc, dO, g2, c, rfl, w5, by rw [n2, rk.nm]; exact inG cm, _, rfl, ?_⟩
    rw [filter_snoc hc]
    refine ite2 (fun q => ?_) (fun q => ?_)
    · have q' : (!decide (0 < indeg g2 c)) = true := q
      have lf : ((Rd' ++ ((outsP (bld (vD ps)) d).take i).filter fun c => !decide (0 < indeg g2 c)).map V.str).length ≤ 1000 := by
        have := List.length_filter_le (fun c => !decide (0 < indeg g2 c)) ((outsP (bld (vD ps)) d).take i)
        rw [List.length_map, List.length_append]
        rw [List.length_take] at this
        omega
      refine ⟨_, rfl, .inl ⟨rfl, _, .inl (.inl kr5)⟩, _, rfl, ry, _, _, rfl, rfl, kr5, szLt (by omega), ?_⟩
      refine ⟨same_updN s5 fry, w5.fr (fun o h => upd_oth h nrx.symm) (fun o h => upd_oth h nrc.symm) (fun o h => upd_oth h nrO.symm) (fun e he o h => upd_oth h (fb2 e he).2), upd_oth kl5 llr, upd_oth kk5 nrk.symm, ?_, _, rfl⟩
      rw [if_pos q', upd_same, ← List.append_assoc]
      exact congrArg (fun z => some (HO.lst z)) (List.map_append (f := V.str) (l₂ := [c])).symm
    · have q' : ¬ (!decide (0 < indeg g2 c)) = true := q
      refine ⟨s5, w5, kl5, kk5, ?_, _, rfl⟩
      rw [if_neg q', List.append_nil]
      exact kr5
  obtain ⟨s4, w4, kl4, kk4, kr4, v5, rfl⟩ := z
  rw [List.length_map, List.take_length] at kk4 kr4
  exact ⟨_, by rw [List.length_cons]; omega, d :: Pd, _, _, g2, _, _, rfl, rfl, ⟨s4, w4, n2.trans rk.nm, fb2, kk4, kr4, o2, rk.kw.step gnd cN hf⟩⟩
theorem sc__law_whole : FnScope ["found"] ["found"] (defScope (top 14)) := ⟨rfl, rfl, rfl, by decide +kernel, rfl, by decide +kernel, by decide +kernel⟩
def sp__law_whole (K : PySem.W.Frag) : Sp := fun vs H Q _ => ∃ n : Int, vs = [.int n] ∧ Q (.bl true) H
theorem ok__law_whole (d__law_whole : Dv K mg "_law_whole" (top 14) ["found"]) (B : Bl mg) (C : Co mg) (R : Er K mg)  : FnOk P w K mg base CX0 1 d__law_whole.f d__law_whole.fd ["found"] (sp__law_whole K) := by
  refine d__law_whole.F.ok sc__law_whole (fun vs H Q E h => ?_) (fun cdv A outer s H vs Q E hr h => ?_)
  · obtain ⟨_, rfl, _⟩ := h; rfl
  obtain ⟨n, rfl, q⟩ := h
  refine ⟨_, (pss_one (ps_ret (pe_and (pe_callB call_isinst rfl B.b_isinstance PyProof.Rows.boot_isinstance (pa_cons (pv 0) (pa_cons (pe_bltn (v := .ty "int") rfl B.b_int PyProof.Rows.boot_int rfl) pa_nil))) (pe_one (pe_not (pe_callB call_isinst rfl B.b_isinstance PyProof.Rows.boot_isinstance (pa_cons (pv 0) (pa_cons (pe_bltn (v := .ty "bool") rfl B.b_bool PyProof.Rows.boot_bool rfl) pa_nil)))))))), ?_⟩
  refine ⟨_, rfl, _, _, _, _, true, rfl, .int n, rfl, rfl, true, rfl, iteT ?_⟩
  exact ⟨_, rfl, _, _, _, _, false, rfl, .int n, rfl, rfl, false, rfl, q⟩
theorem sc__law_dues : FnScope ["rows", "row"] ["rows"] (defScope (top 15)) := ⟨rfl, rfl, rfl, by decide +kernel, rfl, by decide +kernel, by decide +kernel⟩
def sp__law_dues (K : PySem.W.Frag) : Sp := fun vs H Q _ => ∃ (f : Addr) (ps : List TD), vs = [.ref f] ∧ H f = some (.lst (ps.map rd)) ∧ Tds H ps ∧ (∀ p ∈ ps, 0 < p.2.2.2) ∧ Q (.bl true) H
theorem ok__law_dues (d__law_dues : Dv K mg "_law_dues" (top 15) ["rows"]) (B : Bl mg) (C : Co mg) (R : Er K mg) (d__law_whole : Dv K mg "_law_whole" (top 14) ["found"]) (G__law_whole : FnOk P w K mg base CX0 1 d__law_whole.f d__law_whole.fd ["found"] (sp__law_whole K)) : FnOk P w K mg base CX0 2 d__law_dues.f d__law_dues.fd ["rows"] (sp__law_dues K) := by
  refine d__law_dues.F.ok sc__law_dues (fun vs H Q E h => ?_) (fun cdv A outer s H vs Q E hr h => ?_)
  · obtain ⟨_, _, rfl, _⟩ := h; rfl
  obtain ⟨f, ps, rfl, hf, hD, pos, q⟩ := h
  refine ⟨_, (pss_cons (ps_if (pt_not (pt_val (pe_callB call_isinst rfl B.b_isinstance PyProof.Rows.boot_isinstance (pa_cons (pv 0) (pa_cons (pe_bltn (v := .ty "list") rfl B.b_list PyProof.Rows.boot_list rfl) pa_nil))) (fun _ => rfl))) (pss_one (ps_ret pe_bl)) pss_nil) (pss_cons (ps_for PassesOwn.never rfl (pi_list (pv 0)) (pg_name (i := 1) sc__law_dues.nd rfl (Or.inl rfl)) (pss_cons (ps_if (PW.pt (pw_or (pt_not (pt_val (pe_callB call_isinst rfl B.b_isinstance PyProof.Rows.boot_isinstance (pa_cons (pv 1) (pa_cons (pe_bltn (v := .ty "tuple") rfl B.b_tuple PyProof.Rows.boot_tuple rfl) pa_nil))) (fun _ => rfl))) (pw_or (pt_cmpR op_ne (pe_callB call_len_seq rfl B.b_len PySem.boot_len (pa_cons (pv 1) pa_nil)) pe_int (nomark _)) (pw_or (pt_not (pt_val (pe_callB call_isinst rfl B.b_isinstance PyProof.Rows.boot_isinstance (pa_cons (pe_ix ix_tup (pv 1) pe_int (fun _ _ => rfl)) (pa_cons (pe_bltn (v := .ty "str") rfl B.b_str PyProof.Rows.boot_str rfl) pa_nil))) (fun _ => rfl))) (pw_or1 (pt_not (pt_val (pe_callB call_isinst rfl B.b_isinstance PyProof.Rows.boot_isinstance (pa_cons (pe_ix ix_tup (pv 1) pe_int (fun _ _ => rfl)) (pa_cons (pe_bltn (v := .ty "str") rfl B.b_str PyProof.Rows.boot_str rfl) pa_nil))) (fun _ => rfl)))))))) (pss_one (ps_ret pe_bl)) pss_nil) (pss_one (ps_if (PW.pt (pw_or (pt_not (pt_val (pe_call G__law_whole (hr.mono (by decide)) rfl d__law_whole.m d__law_whole.F.kp d__law_whole.b .nil pass0 (pa_cons (pe_ix ix_tup (pv 1) pe_int (fun _ _ => rfl)) pa_nil)) (fun _ => rfl))) (pw_or1 (pt_cmpR op_lt (pe_ix ix_tup (pv 1) pe_int (fun _ _ => rfl)) pe_int (nomark _))))) (pss_one (ps_ret pe_bl)) pss_nil)))) (pss_one (ps_ret pe_bl)))), ?_⟩
  refine ⟨_, rfl, _, _, _, _, true, rfl, .lst hf, rfl, rfl, _, rfl, iteF ?_⟩
  refine ⟨_, rfl, f, rfl, ⟨_, .inl (.inl hf)⟩, ?_⟩
  refine for_list (K := K) (a := f) (xs := ps.map rd) (fun _ σ H' => H = H' ∧ ∃ v1, σ = [some (.ref f), v1]) ⟨rfl, none, rfl⟩ (fun i σ H' _ z => .inl (.inl (by rw [← z.1]; exact hf))) (fun i y0 σ H' hy0 z => ?_) (fun σ H' z => ?_)
  · obtain ⟨rfl, v1, rfl⟩ := z
    rw [List.getElem?_map] at hy0
    obtain ⟨y, hy, rfl⟩ := Option.map_eq_some_iff.mp hy0
    have my := List.mem_of_getElem? hy
    have ky := hD y my
    refine ⟨_, rfl, _, _, _, _, true, rfl, .tup ky, rfl, rfl, _, rfl, iteF ?_⟩
    refine ⟨_, rfl, y.1, _, rfl, .inr (.inl (.inl ky)), rfl, _, rfl, iteNS rfl ?_⟩
    refine ⟨_, rfl, y.1, _, _, _, rfl, rfl, .inl (.inl ky), rfl, _, _, _, _, true, rfl, .str _, rfl, rfl, _, rfl, iteF ?_⟩
    refine ⟨_, rfl, y.1, _, _, _, rfl, rfl, .inl (.inl ky), rfl, _, _, _, _, true, rfl, .str _, rfl, rfl, _, rfl, iteF ?_⟩
    refine ⟨_, rfl, y.1, _, _, _, rfl, rfl, .inl (.inl ky), rfl, _, rfl, _, rfl, iteF ?_⟩
    refine ⟨_, rfl, y.1, _, _, _, rfl, rfl, .inl (.inl ky), rfl, _, _, rfl, rfl, _, rfl, ?_⟩
    refine ite2 (fun c => ?_) (fun c => ⟨rfl, _, rfl⟩)
    have := pos y my
    have := of_decide_eq_true c
    omega
  · obtain ⟨rfl, v1, rfl⟩ := z
    exact q
theorem sc__law_sums : FnScope ["rows", "names", "sums", "name", "row"] ["rows", "names"] (defScope (top 17)) := ⟨rfl, rfl, rfl, by decide +kernel, rfl, by decide +kernel, by decide +kernel⟩
def sp__law_sums (K : PySem.W.Frag) : Sp := fun vs H Q _ => ∃ (f n : Addr) (ps : List TD) (nm : List Str), vs = [.ref f, .ref n] ∧ H f = some (.lst (ps.map rd)) ∧ Tds H ps ∧ H n = some (.lst (nm.map V.str)) ∧ nm.Nodup ∧ nm.length ≤ 60 ∧ (∀ p ∈ ps, p.2.1 ∈ nm ∧ p.2.2.1 ∈ nm) ∧ ∀ (H' : Hp) (D : Addr), Same H H' → H' D = some (.dK (kvM nm (netI (vD ps)))) → Q (.ref D) H'
theorem ok__law_sums (d__law_sums : Dv K mg "_law_sums" (top 17) ["rows", "names"]) (B : Bl mg) (C : Co mg) (R : Er K mg)  : FnOk P w K mg base CX0 1 d__law_sums.f d__law_sums.fd ["rows", "names"] (sp__law_sums K) := by
  refine d__law_sums.F.ok sc__law_sums (fun vs H Q E h => ?_) (fun cdv A outer s H vs Q E hr h => ?_)
  · obtain ⟨_, _, _, _, rfl, _⟩ := h; rfl
  obtain ⟨f, n, ps, nm, rfl, hf, hD, hn, nd, m60, mem, q⟩ := h
  refine ⟨_, (pss_cons (ps_set (i := 2) sc__law_sums.nd rfl (Or.inl rfl) pe_dnewK) (pss_cons (ps_for PassesOwn.never rfl (pi_list (pv 1)) (pg_name (i := 3) sc__law_sums.nd rfl (Or.inl rfl)) (pss_one (ps_dput (hu1 hr.units) (pv 2) (pv 3) pe_int rfl))) (pss_cons (ps_for PassesOwn.never rfl (pi_list (pv 0)) (pg_name (i := 4) sc__law_sums.nd rfl (Or.inl rfl)) (pss_cons (ps_dput (hu1 hr.units) (pv 2) (pe_ix ix_tup (pv 4) pe_int (fun _ _ => rfl)) (pe_op op_sub (pe_dget (hu1 hr.units) (pv 2) (pe_ix ix_tup (pv 4) pe_int (fun _ _ => rfl)) (fun _ _ => rfl)) (pe_ix ix_tup (pv 4) pe_int (fun _ _ => rfl))) rfl) (pss_one (ps_dput (hu1 hr.units) (pv 2) (pe_ix ix_tup (pv 4) pe_int (fun _ _ => rfl)) (pe_op op_add (pe_dget (hu1 hr.units) (pv 2) (pe_ix ix_tup (pv 4) pe_int (fun _ _ => rfl)) (fun _ _ => rfl)) (pe_ix ix_tup (pv 4) pe_int (fun _ _ => rfl))) rfl)))) (pss_one (ps_ret (pv 2)))))), ?_⟩
  refine fun D fD => ?_
  have s1 := same_upd (u := .dK []) fD
  have k1 : upd H D (.dK []) D = some (.dK (kvM (nm.take 0) fun _ => 0)) := upd_same
  generalize upd H D (.dK []) = H1 at s1 k1
  refine ⟨_, rfl, n, rfl, ⟨_, .inl (.inl (s1 _ _ hn))⟩, ?_⟩
  refine for_list (K := K) (a := n) (xs := nm.map V.str) (fun i σ H' => Same H H' ∧ H' D = some (.dK (kvM (nm.take i) fun _ => 0)) ∧ ∃ v3, σ = [some (.ref f), some (.ref n), some (.ref D), v3, none]) ⟨s1, k1, none, rfl⟩ (fun i σ H' _ z => .inl (.inl (z.1 _ _ hn))) (fun i y0 σ H' hy0 z => ?_) (fun σ H' z => ?_)
  · obtain ⟨s2, k2, v3, rfl⟩ := z
    rw [List.getElem?_map] at hy0
    obtain ⟨y, hy, rfl⟩ := Option.map_eq_some_iff.mp hy0
    have ly := (List.getElem?_eq_some_iff.mp hy).1
    refine ⟨_, rfl, _, rfl, D, _, rfl, .inl ⟨_, Sum.inr y, k2, rfl, szLt (by rw [kvM_len, List.length_take]; omega), rfl⟩, ?_⟩
    exact ⟨same_updN s2 fD, by rw [upd_same, kvM_new (take_fresh nd hy), kvM_snoc hy], _, rfl⟩
  obtain ⟨s2, k2, v3, rfl⟩ := z
  rw [List.length_map, List.take_length] at k2
  refine ⟨_, rfl, f, rfl, ⟨_, .inl (.inl (s2 _ _ hf))⟩, ?_⟩
  refine for_list (K := K) (a := f) (xs := ps.map rd) (fun i σ H' => Same H H' ∧ H' D = some (.dK (kvM nm (netI ((vD ps).take i)))) ∧ ∃ v4, σ = [some (.ref f), some (.ref n), some (.ref D), v3, v4]) ⟨s2, k2, none, rfl⟩ (fun i σ H' _ z => .inl (.inl (z.1 _ _ hf))) (fun i y0 σ H' hy0 z => ?_) (fun σ H' z => ?_)
  · obtain ⟨s4, k4, v4, rfl⟩ := z
    rw [List.getElem?_map] at hy0
    obtain ⟨y, hy, rfl⟩ := Option.map_eq_some_iff.mp hy0
    have my := List.mem_of_getElem? hy
    obtain ⟨m1, m2⟩ := mem y my
    have ky := s4 _ _ (hD y my)
    have nyD : y.1 ≠ D := fun z => by rw [z, k4] at ky; cases ky
    refine ⟨_, rfl, _, rfl, y.1, _, _, _, rfl, rfl, .inl (.inl ky), rfl, D, _, rfl, .inl ⟨_, Sum.inr y.2.1, .inl k4, rfl, (kvM_val nd m1).symm⟩, _, rfl, y.1, _, _, _, rfl, rfl, .inl (.inl ky), rfl, _, _, rfl, rfl, _, rfl, _, rfl, y.1, _, _, _, rfl, rfl, .inl (.inl ky), rfl, D, _, rfl, .inl ⟨_, Sum.inr y.2.1, k4, rfl, szLt (by rw [kvM_len]; omega), rfl⟩, ?_⟩
    dsimp only
    rw [kvM_put m1]
    have ky5 := upd_oth (u := .dK (kvM nm fun z => if z = y.2.1 then netI ((vD ps).take i) y.2.1 - y.2.2.2 else netI ((vD ps).take i) z)) ky nyD
    have k5 : upd H' D (.dK (kvM nm fun z => if z = y.2.1 then netI ((vD ps).take i) y.2.1 - y.2.2.2 else netI ((vD ps).take i) z)) D = _ := upd_same
    have s5 : Same H (upd H' D (.dK (kvM nm fun z => if z = y.2.1 then netI ((vD ps).take i) y.2.1 - y.2.2.2 else netI ((vD ps).take i) z))) := same_updN s4 fD
    generalize upd H' D (.dK (kvM nm fun z => if z = y.2.1 then netI ((vD ps).take i) y.2.1 - y.2.2.2 else netI ((vD ps).take i) z)) = H5 at ky5 k5 s5
    refine ⟨_, rfl, _, rfl, y.1, _, _, _, rfl, rfl, .inl (.inl ky5), rfl, D, _, rfl, .inl ⟨_, Sum.inr y.2.2.1, .inl k5, rfl, (kvM_val nd m2).symm⟩, _, rfl, y.1, _, _, _, rfl, rfl, .inl (.inl ky5), rfl, _, _, rfl, rfl, _, rfl, _, rfl, y.1, _, _, _, rfl, rfl, .inl (.inl ky5), rfl, D, _, rfl, .inl ⟨_, Sum.inr y.2.2.1, k5, rfl, szLt (by rw [kvM_len]; omega), rfl⟩, ?_⟩
    dsimp only
    rw [kvM_put m2, net_step hy]
    exact ⟨same_updN s5 fD, upd_same, _, rfl⟩
  obtain ⟨s4, k4, v4, rfl⟩ := z
  rw [List.length_map, ← vD_len, List.take_length] at k4
  exact ⟨_, rfl, q _ D s4 k4⟩
theorem sc__law_parted : FnScope ["book", "cuts", "left", "at", "on", "due", "more"] ["book", "cuts", "left"] (defScope (top 16)) := ⟨rfl, rfl, rfl, by decide +kernel, rfl, by decide +kernel, by decide +kernel⟩
def sp__law_parted (K : PySem.W.Frag) : Sp := fun vs H Q _ => ∃ (b c r : Addr) (ps cs rs : List TD) (A : Str → Str → Int), vs = [.ref b, .ref c, .ref r] ∧ H b = some (.lst (ps.map rd)) ∧ Tds H ps ∧ H c = some (.lst (cs.map rd)) ∧ Tds H cs ∧ H r = some (.lst (rs.map rd)) ∧ Tds H rs ∧ (vD ps).Pairwise S3 ∧ (∀ p ∈ vD ps, 0 ≤ A p.1 p.2.1 ∧ A p.1 p.2.1 ≤ p.2.2) ∧ vD cs = ((vD ps).map (cF A)).filter posT ∧ vD rs = ((vD ps).map (rF A)).filter posT ∧ ∀ H', Same H H' → Q (.bl true) H'
theorem ok__law_parted (d__law_parted : Dv K mg "_law_parted" (top 16) ["book", "cuts", "left"]) (B : Bl mg) (C : Co mg) (R : Er K mg)  : FnOk P w K mg base CX0 1 d__law_parted.f d__law_parted.fd ["book", "cuts", "left"] (sp__law_parted K) := by
  refine d__law_parted.F.ok sc__law_parted (fun vs H Q E h => ?_) (fun cdv A outer s H vs Q E hr h => ?_)
  · obtain ⟨_, _, _, _, _, _, _, rfl, _⟩ := h; rfl
  obtain ⟨b, c, r, ps, cs, rs, A, rfl, hb, hB, hc, hC, hr0, hR, pw, an, ec, er, q⟩ := h
  refine ⟨_, (pss_cons (ps_set (i := 3) sc__law_parted.nd rfl (Or.inl rfl) pe_int) (pss_cons (ps_set (i := 4) sc__law_parted.nd rfl (Or.inl rfl) pe_int) (pss_cons (ps_for PassesOwn.never rfl (pi_list (pv 0)) (pg_name (i := 5) sc__law_parted.nd rfl (Or.inl rfl)) (pss_cons (ps_set (i := 6) sc__law_parted.nd rfl (Or.inl rfl) pe_int) (pss_cut (ps_if (PW.pt (pw_and (pt_cmpR op_lt (pv 3) (pe_callB call_len_seq rfl B.b_len PySem.boot_len (pa_cons (pv 1) pa_nil)) (nomark _)) (pw_and1 (pt_cmpR (op_eqT hr.units0) (pe_slice sl_tup (pe_ix ix_list (pv 1) (pv 3) (fun _ _ => rfl)) po_none (po_some pe_int)) (pe_slice sl_tup (pv 5) po_none (po_some pe_int)) (nomark _))))) (pss_cons (ps_set (i := 6) sc__law_parted.nd rfl (Or.inl rfl) (pe_ix ix_tup (pe_ix ix_list (pv 1) (pv 3) (fun _ _ => rfl)) pe_int (fun _ _ => rfl))) (pss_one (ps_set (i := 3) sc__law_parted.nd rfl (Or.inl rfl) (pe_op op_add (pv 3) pe_int)))) pss_nil) (pss_cut (ps_if (PW.pt (pw_and (pt_cmpR op_lt (pv 4) (pe_callB call_len_seq rfl B.b_len PySem.boot_len (pa_cons (pv 2) pa_nil)) (nomark _)) (pw_and1 (pt_cmpR (op_eqT hr.units0) (pe_slice sl_tup (pe_ix ix_list (pv 2) (pv 4) (fun _ _ => rfl)) po_none (po_some pe_int)) (pe_slice sl_tup (pv 5) po_none (po_some pe_int)) (nomark _))))) (pss_cons (ps_set (i := 6) sc__law_parted.nd rfl (Or.inl rfl) (pe_op op_add (pv 6) (pe_ix ix_tup (pe_ix ix_list (pv 2) (pv 4) (fun _ _ => rfl)) pe_int (fun _ _ => rfl)))) (pss_one (ps_set (i := 4) sc__law_parted.nd rfl (Or.inl rfl) (pe_op op_add (pv 4) pe_int)))) pss_nil) (pss_one (ps_if (pt_cmpR op_ne (pv 6) (pe_ix ix_tup (pv 5) pe_int (fun _ _ => rfl)) (nomark _)) (pss_one (ps_ret pe_bl)) pss_nil)))))) (pss_one (ps_ret (pe_and (pe_cmpR op_eq (pv 3) (pe_callB call_len_seq rfl B.b_len PySem.boot_len (pa_cons (pv 1) pa_nil)) (nomark _)) (pe_one (pe_cmpR op_eq (pv 4) (pe_callB call_len_seq rfl B.b_len PySem.boot_len (pa_cons (pv 2) pa_nil)) (nomark _))))))))), ?_⟩
  refine ⟨_, rfl, b, rfl, ⟨_, .inl (.inl hb)⟩, ?_⟩
  refine for_list (K := K) (a := b) (xs := ps.map rd) (fun i σ H' => Same H H' ∧ ∃ v5 v6, σ = [some (.ref b), some (.ref c), some (.ref r), some (.int (nF (cF A) (vD ps) i : Nat)), some (.int (nF (rF A) (vD ps) i : Nat)), v5, v6]) ⟨Same.refl _, none, none, rfl⟩ (fun i σ H' _ z => .inl (.inl (z.1 _ _ hb))) (fun i y0 σ H' hy0 z => ?_) (fun σ H' z => ?_)
  · obtain ⟨s1, v5, v6, rfl⟩ := z
    rw [List.getElem?_map] at hy0
    obtain ⟨y, hy, rfl⟩ := Option.map_eq_some_iff.mp hy0
    have my := List.mem_of_getElem? hy
    have ky := hB y my
    refine ⟨fun σ' H' => Same H H' ∧ σ' = [some (.ref b), some (.ref c), some (.ref r), some (.int (nF (cF A) (vD ps) (i + 1) : Nat)), some (.int (nF (rF A) (vD ps) i : Nat)), some (.ref y.1), some (.int (mF (cF A) y.2))], ?_, ?_⟩
    · have pa := part_at (f := cF A) (fun p => ⟨rfl, rfl⟩) pw (vD_get hy)
      rw [← ec] at pa
      have nn : ((((vD ps).take i).map (cF A)).filter posT).length = nF (cF A) (vD ps) i := rfl
      rw [nn] at pa
      have kc := s1 _ _ hc
      have ky' := s1 _ _ ky
      refine ⟨_, rfl, _, rfl, c, _, rfl, .inl (.inl (.inl kc)), _, _, rfl, rfl, _, rfl, ?_⟩
      have no : posT (cF A y.2) = false → nF (cF A) (vD ps) i = nF (cF A) (vD ps) (i + 1) ∧ mF (cF A) y.2 = 0 := fun p0 => by
        rw [nF_snoc (vD_get hy)]
        unfold mF
        rw [if_neg (by rw [p0]; exact Bool.false_ne_true), if_neg (by rw [p0]; exact Bool.false_ne_true)]
        exact ⟨rfl, rfl⟩
      refine ite2 (fun c1 => ?_) (fun c1 => ?_)
      · have lt : nF (cF A) (vD ps) i < cs.length := by have := of_decide_eq_true c1; rw [List.length_map] at this; omega
        have ge := List.getElem?_eq_getElem lt
        have ke := s1 _ _ (hC _ (List.getElem_mem lt))
        generalize cs[nF (cF A) (vD ps) i] = e at ge ke
        have gd := vD_get ge
        have ai : atI (cs.map rd) (nF (cF A) (vD ps) i : Nat) = some (rd e) := atI_nat (by rw [List.getElem?_map, ge]; rfl)
        refine ⟨_, rfl, _, rfl, c, _, _, _, rfl, rfl, .inl (.inl kc), ai, _, rfl, e.1, _, rfl, .inl (.inl ke), (by show ¬ (HT.sIx 3 0 none = 0 ∧ HT.sIx 3 3 (some 2) = 3); decide), fun t1 ht1 => ?_⟩
        have ec1 : cutV [V.str e.2.1, V.str e.2.2.1, V.int e.2.2.2] none (some 2) = [V.str e.2.1, V.str e.2.2.1] := rfl
        rw [ec1]
        have u1 := same_upd (u := .tup [V.str e.2.1, V.str e.2.2.1]) ht1
        refine ⟨_, rfl, _, rfl, y.1, _, rfl, .inl (.inl (u1 _ _ ky')), (by show ¬ (HT.sIx 3 0 none = 0 ∧ HT.sIx 3 3 (some 2) = 3); decide), fun t2 ht2 => ?_⟩
        have ec2 : cutV [V.str y.2.1, V.str y.2.2.1, V.int y.2.2.2] none (some 2) = [V.str y.2.1, V.str y.2.2.1] := rfl
        rw [ec2]
        have u2 := same_upd' (u := .tup [V.str y.2.1, V.str y.2.2.1]) u1 ht2
        refine ⟨t1, t2, [V.str e.2.1, V.str e.2.2.1], [V.str y.2.1, V.str y.2.2.1], rfl, rfl, .inl (.inl (at_upd upd_same ht2)), .inl (.inl upd_same), rfl, rfl, rfl, _, rfl, ?_⟩
        rw [eqKd]
        have sZ := s1.trans u2
        have kc2 := u2 _ _ kc
        have ke2 := u2 _ _ ke
        generalize upd (upd H' t1 (.tup [V.str e.2.1, V.str e.2.2.1])) t2 (.tup [V.str y.2.1, V.str y.2.2.1]) = HY at sZ kc2 ke2
        refine ite2 (fun c2 => ?_) (fun c2 => ?_)
        · have c2 := of_decide_eq_true c2
          rcases pa with ⟨p1, p2⟩ | ⟨_, p2⟩
          · rw [gd] at p2
            have ee : e.2 = cF A y.2 := Option.some.inj p2
            have e3 : e.2.2.2 = (cF A y.2).2.2 := by rw [ee]
            refine ⟨_, rfl, _, rfl, c, _, _, _, rfl, rfl, .inl (.inl kc2), ai, e.1, _, _, _, rfl, rfl, .inl (.inl ke2), rfl, _, rfl, _, _, rfl, rfl, sZ, ?_⟩
            have n1 : ((nF (cF A) (vD ps) i : Nat) : Int) + 1 = (nF (cF A) (vD ps) (i + 1) : Nat) := by rw [nF_snoc (vD_get hy), if_pos p1]; omega
            have n2 : e.2.2.2 = mF (cF A) y.2 := by unfold mF; rw [if_pos p1, e3]
            exact n1 ▸ n2 ▸ rfl
          · exact absurd c2 (p2 _ gd)
        · rcases pa with ⟨p1, p2⟩ | ⟨p0, _⟩
          · rw [gd] at p2
            have ee : e.2 = cF A y.2 := Option.some.inj p2
            exact absurd (decide_eq_true (by rw [ee]; exact ⟨rfl, rfl⟩)) c2
          · refine ⟨sZ, ?_⟩
            obtain ⟨n1, n2⟩ := no p0
            rw [← n1, n2]; rfl
      · rcases pa with ⟨p1, p2⟩ | ⟨p0, _⟩
        · have := (List.getElem?_eq_some_iff.mp p2).1
          rw [show (vD cs).length = cs.length by unfold vD; rw [List.length_map]] at this
          exact absurd (decide_eq_true (by rw [List.length_map]; omega)) c1
        · refine ⟨s1, ?_⟩
          obtain ⟨n1, n2⟩ := no p0
          rw [← n1, n2]; rfl
    rintro _ H2 ⟨s2, rfl⟩
    refine ⟨fun σ' H' => Same H H' ∧ σ' = [some (.ref b), some (.ref c), some (.ref r), some (.int (nF (cF A) (vD ps) (i + 1) : Nat)), some (.int (nF (rF A) (vD ps) (i + 1) : Nat)), some (.ref y.1), some (.int (mF (cF A) y.2 + mF (rF A) y.2))], ?_, ?_⟩
    · have pa := part_at (f := rF A) (fun p => ⟨rfl, rfl⟩) pw (vD_get hy)
      rw [← er] at pa
      have nn : ((((vD ps).take i).map (rF A)).filter posT).length = nF (rF A) (vD ps) i := rfl
      rw [nn] at pa
      have kc := s2 _ _ hr0
      have ky' := s2 _ _ ky
      refine ⟨_, rfl, _, rfl, r, _, rfl, .inl (.inl (.inl kc)), _, _, rfl, rfl, _, rfl, ?_⟩
      have no : posT (rF A y.2) = false → nF (rF A) (vD ps) i = nF (rF A) (vD ps) (i + 1) ∧ mF (rF A) y.2 = 0 := fun p0 => by
        rw [nF_snoc (vD_get hy)]
        unfold mF
        rw [if_neg (by rw [p0]; exact Bool.false_ne_true), if_neg (by rw [p0]; exact Bool.false_ne_true)]
        exact ⟨rfl, rfl⟩
      refine ite2 (fun c1 => ?_) (fun c1 => ?_)
      · have lt : nF (rF A) (vD ps) i < rs.length := by have := of_decide_eq_true c1; rw [List.length_map] at this; omega
        have ge := List.getElem?_eq_getElem lt
        have ke := s2 _ _ (hR _ (List.getElem_mem lt))
        generalize rs[nF (rF A) (vD ps) i] = e at ge ke
        have gd := vD_get ge
        have ai : atI (rs.map rd) (nF (rF A) (vD ps) i : Nat) = some (rd e) := atI_nat (by rw [List.getElem?_map, ge]; rfl)
        refine ⟨_, rfl, _, rfl, r, _, _, _, rfl, rfl, .inl (.inl kc), ai, _, rfl, e.1, _, rfl, .inl (.inl ke), (by show ¬ (HT.sIx 3 0 none = 0 ∧ HT.sIx 3 3 (some 2) = 3); decide), fun t1 ht1 => ?_⟩
        have ec1 : cutV [V.str e.2.1, V.str e.2.2.1, V.int e.2.2.2] none (some 2) = [V.str e.2.1, V.str e.2.2.1] := rfl
        rw [ec1]
        have u1 := same_upd (u := .tup [V.str e.2.1, V.str e.2.2.1]) ht1
        refine ⟨_, rfl, _, rfl, y.1, _, rfl, .inl (.inl (u1 _ _ ky')), (by show ¬ (HT.sIx 3 0 none = 0 ∧ HT.sIx 3 3 (some 2) = 3); decide), fun t2 ht2 => ?_⟩
        have ec2 : cutV [V.str y.2.1, V.str y.2.2.1, V.int y.2.2.2] none (some 2) = [V.str y.2.1, V.str y.2.2.1] := rfl
        rw [ec2]
        have u2 := same_upd' (u := .tup [V.str y.2.1, V.str y.2.2.1]) u1 ht2
        refine ⟨t1, t2, [V.str e.2.1, V.str e.2.2.1], [V.str y.2.1, V.str y.2.2.1], rfl, rfl, .inl (.inl (at_upd upd_same ht2)), .inl (.inl upd_same), rfl, rfl, rfl, _, rfl, ?_⟩
        rw [eqKd]
        have sZ := s2.trans u2
        have kc2 := u2 _ _ kc
        have ke2 := u2 _ _ ke
        generalize upd (upd H2 t1 (.tup [V.str e.2.1, V.str e.2.2.1])) t2 (.tup [V.str y.2.1, V.str y.2.2.1]) = HY at sZ kc2 ke2
        refine ite2 (fun c2 => ?_) (fun c2 => ?_)
        · have c2 := of_decide_eq_true c2
          rcases pa with ⟨p1, p2⟩ | ⟨_, p2⟩
          · rw [gd] at p2
            have ee : e.2 = rF A y.2 := Option.some.inj p2
            have e3 : e.2.2.2 = (rF A y.2).2.2 := by rw [ee]
            refine ⟨_, rfl, _, rfl, _, rfl, r, _, _, _, rfl, rfl, .inl (.inl kc2), ai, e.1, _, _, _, rfl, rfl, .inl (.inl ke2), rfl, _, _, rfl, rfl, _, rfl, _, _, rfl, rfl, sZ, ?_⟩
            have n1 : ((nF (rF A) (vD ps) i : Nat) : Int) + 1 = (nF (rF A) (vD ps) (i + 1) : Nat) := by rw [nF_snoc (vD_get hy), if_pos p1]; omega
            have n2 : e.2.2.2 = mF (rF A) y.2 := by unfold mF; rw [if_pos p1, e3]
            exact n1 ▸ n2 ▸ rfl
          · exact absurd c2 (p2 _ gd)
        · rcases pa with ⟨p1, p2⟩ | ⟨p0, _⟩
          · rw [gd] at p2
            have ee : e.2 = rF A y.2 := Option.some.inj p2
            exact absurd (decide_eq_true (by rw [ee]; exact ⟨rfl, rfl⟩)) c2
          · refine ⟨sZ, ?_⟩
            obtain ⟨n1, n2⟩ := no p0
            rw [← n1, n2, Int.add_zero]
      · rcases pa with ⟨p1, p2⟩ | ⟨p0, _⟩
        · have := (List.getElem?_eq_some_iff.mp p2).1
          rw [show (vD rs).length = rs.length by unfold vD; rw [List.length_map]] at this
          exact absurd (decide_eq_true (by rw [List.length_map]; omega)) c1
        · refine ⟨s2, ?_⟩
          obtain ⟨n1, n2⟩ := no p0
          rw [← n1, n2, Int.add_zero]
    rintro _ H3 ⟨s3, rfl⟩
    have ky3 := s3 _ _ ky
    have tot : mF (cF A) y.2 + mF (rF A) y.2 = y.2.2.2 := by
      obtain ⟨a1, a2⟩ := an y.2 (List.mem_map.mpr ⟨y, my, rfl⟩)
      have f1 : (cF A y.2).2.2 = y.2.2.2 - A y.2.1 y.2.2.1 := rfl
      have f2 : (rF A y.2).2.2 = A y.2.1 y.2.2.1 := rfl
      unfold mF posT
      rw [f1, f2]
      by_cases c1 : 0 < y.2.2.2 - A y.2.1 y.2.2.1 <;> by_cases c2 : 0 < A y.2.1 y.2.2.1
      · rw [if_pos (decide_eq_true c1), if_pos (decide_eq_true c2)]; omega
      · rw [if_pos (decide_eq_true c1), if_neg (fun z => c2 (of_decide_eq_true z))]; omega
      · rw [if_neg (fun z => c1 (of_decide_eq_true z)), if_pos (decide_eq_true c2)]; omega
      · rw [if_neg (fun z => c1 (of_decide_eq_true z)), if_neg (fun z => c2 (of_decide_eq_true z))]; omega
    rw [tot]
    refine ⟨_, rfl, _, rfl, y.1, _, _, _, rfl, rfl, .inl (.inl ky3), rfl, rfl, _, rfl, iteNS rfl ?_⟩
    exact ⟨s3, _, _, rfl⟩
  obtain ⟨s1, v5, v6, rfl⟩ := z
  rw [List.length_map] at *
  have n1 : nF (cF A) (vD ps) ps.length = cs.length := by
    unfold nF
    rw [← vD_len, List.take_length, ← ec, vD_len]
  have n2 : nF (rF A) (vD ps) ps.length = rs.length := by
    unfold nF
    rw [← vD_len, List.take_length, ← er, vD_len]
  refine ⟨_, rfl, _, rfl, c, _, rfl, .inl (.inl (.inl (s1 _ _ hc))), rfl, ?_⟩
  rw [decide_eq_true (show V.int (nF (cF A) (vD ps) ps.length : Nat) = V.int ((cs.map rd).length : Nat) by rw [n1, List.length_map])]
  refine ⟨_, rfl, iteT ?_⟩
  refine ⟨_, rfl, _, rfl, r, _, rfl, .inl (.inl (.inl (s1 _ _ hr0))), rfl, ?_⟩
  rw [decide_eq_true (show V.int (nF (rF A) (vD ps) ps.length : Nat) = V.int ((rs.map rd).length : Nat) by rw [n2, List.length_map])]
  exact q _ s1
theorem sc__law_goes_up : FnScope ["left", "rows", "rung", "rank", "who", "place", "due"] ["left"] (defScope (top 18)) := ⟨rfl, rfl, rfl, by decide +kernel, rfl, by decide +kernel, by decide +kernel⟩
def sp__law_goes_up (K : PySem.W.Frag) : Sp := fun vs H Q _ => ∃ (f : Addr) (ps : List TD) (nm : List Str), vs = [.ref f] ∧ H f = some (.lst (ps.map rd)) ∧ Tds H ps ∧ ps.length ≤ 600 ∧ (vD ps).Pairwise S3 ∧ (∀ p ∈ ps, p.2.1 ∈ nm ∧ p.2.2.1 ∈ nm) ∧ nm.length ≤ 60 ∧ Acy (outsP (bld (vD ps))) ∧ ∀ H', Same H H' → Q (.bl true) H'
theorem ok__law_goes_up (d__law_goes_up : Dv K mg "_law_goes_up" (top 18) ["left"]) (B : Bl mg) (C : Co mg) (R : Er K mg) (d_ranks : Dv K mg "ranks" (top 6) ["book"]) (G_ranks : FnOk P w K mg base (CXb P w) 3 d_ranks.f d_ranks.fd ["book"] (sp_ranks K)) : FnOk P w K mg base CX0 4 d__law_goes_up.f d__law_goes_up.fd ["left"] (sp__law_goes_up K) := by
  refine d__law_goes_up.F.ok sc__law_goes_up (fun vs H Q E h => ?_) (fun cdv A outer s H vs Q E hr h => ?_)
  · obtain ⟨_, _, _, rfl, _⟩ := h; rfl
  obtain ⟨f, ps, nm, rfl, hf, hD, hl, pw, mem, m60, acy, q⟩ := h
  refine ⟨_, (pss_cons (ps_set (i := 1) sc__law_goes_up.nd rfl (Or.inl rfl) (pe_lst pa_nil)) (pss_cons (ps_set (i := 2) sc__law_goes_up.nd rfl (Or.inl rfl) pe_bl) (pss_cons (ps_tryN rfl rfl rfl R.m_Ring (pxs_one (px_set (i := 1) sc__law_goes_up.nd rfl (Or.inl rfl) (pex_call G_ranks (hr.mono (by decide)) rfl d_ranks.m d_ranks.F.kp d_ranks.b .nil (pa_cons (pe_callTy call_list_of rfl B.b_list PyProof.Rows.boot_list (pa_cons (pv 0) pa_nil)) pa_nil)))) (fun e_ oe_ => (pss_one (ps_set (i := 2) sc__law_goes_up.nd rfl (Or.inl rfl) pe_bl)))) (pss_cons (ps_if (pt_val (pv 2) (fun _ => rfl)) (pss_one (ps_ret pe_bl)) pss_nil) (pss_cons (ps_set (i := 3) sc__law_goes_up.nd rfl (Or.inl rfl) pe_dnewK) (pss_cons (ps_for PassesOwn.never rfl (pi_list (pv 1)) (pg_tup rfl (pgs_cons (pg_name (i := 4) sc__law_goes_up.nd rfl (Or.inl rfl)) (pgs_cons (pg_name (i := 5) sc__law_goes_up.nd rfl (Or.inl rfl)) pgs_nil))) (pss_one (ps_dput (hu1 hr.units) (pv 3) (pv 4) (pv 5) rfl))) (pss_cons (ps_for PassesOwn.never rfl (pi_list (pv 0)) (pg_name (i := 6) sc__law_goes_up.nd rfl (Or.inl rfl)) (pss_one (ps_if (PW.pt (pw_or (pt_cmp (pc_dnotin (hu1 hr.units) (pe_ix ix_tup (pv 6) pe_int (fun _ _ => rfl)) (pv 3))) (pw_or (pt_cmp (pc_dnotin (hu1 hr.units) (pe_ix ix_tup (pv 6) pe_int (fun _ _ => rfl)) (pv 3))) (pw_or1 (pt_cmpR op_ge (pe_dget (hu1 hr.units) (pv 3) (pe_ix ix_tup (pv 6) pe_int (fun _ _ => rfl)) (fun _ _ => rfl)) (pe_dget (hu1 hr.units) (pv 3) (pe_ix ix_tup (pv 6) pe_int (fun _ _ => rfl)) (fun _ _ => rfl)) (nomark _)))))) (pss_one (ps_ret pe_bl)) pss_nil))) (pss_one (ps_ret pe_bl))))))))), ?_⟩
  refine ⟨by walk_at "sz", fun l0 hl0 => ?_⟩
  have s1 := same_upd (u := .lst []) hl0
  generalize upd H l0 (.lst []) = H1 at s1
  refine ⟨_, rfl, f, _, rfl, .inl (.inl (.inl (s1 _ _ hf))), fun l1 hl1 => ?_⟩
  have s2 := same_upd' (u := .lst (ps.map rd)) s1 hl1
  refine ⟨l1, ps, nm, rfl, upd_same, fun p hp => s2 _ _ (hD p hp), hl, pw, mem, m60, acy, fun H3 l qs ms ρ s3 kl tq ev pm pwm le ex => ?_⟩
  have s3 := s2.trans s3
  refine ⟨_, rfl, _, rfl, iteF ?_⟩
  have ndm : ms.Nodup := pwm.imp fun {a b} k => klt_ne k
  have lm : ms.length ≤ 60 := by
    rw [pm.length_eq, List.length_map]
    refine Nat.le_trans (bld_len (nm := nm) fun p hp => ?_) m60
    obtain ⟨z, hz, rfl⟩ := List.mem_map.mp hp
    exact mem z hz
  have lq : qs.length = ms.length := by have := congrArg List.length ev; unfold v2 at this; rw [List.length_map, List.length_map] at this; exact this
  refine fun D fD => ?_
  have s4 := same_upd' (u := .dK []) s3 fD
  have sD := same_upd (u := .dK []) fD
  have k4 : upd H3 D (.dK []) D = some (.dK (kvM (ms.take 0) ρ)) := upd_same
  have kl4 := sD _ _ kl
  have tq4 : T2s (upd H3 D (.dK [])) qs := fun p hp => sD _ _ (tq p hp)
  have fD0 : H D = none := s3.free fD
  have nlD : l ≠ D := ne_of_none kl fD
  have ntD : ∀ p ∈ qs, p.1 ≠ D := fun p hp => ne_of_none (tq p hp) fD
  generalize upd H3 D (.dK []) = H4 at s4 k4 kl4 tq4
  refine ⟨_, rfl, l, rfl, ⟨_, .inl (.inl kl4)⟩, ?_⟩
  refine for_list (K := K) (a := l) (xs := qs.map r2) (fun i σ H' => (∀ b o, b ≠ D → H4 b = some o → H' b = some o) ∧ H' D = some (.dK (kvM (ms.take i) ρ)) ∧ ∃ v4 v5, σ = [some (.ref f), some (.ref l), some (.bl false), some (.ref D), v4, v5, none]) ⟨fun _ _ _ h => h, k4, none, none, rfl⟩ (fun i σ H' _ z => .inl (.inl (z.1 _ _ nlD kl4))) (fun i y0 σ H' hy0 z => ?_) (fun σ H' z => ?_)
  · obtain ⟨fr, kD, v4, v5, rfl⟩ := z
    rw [List.getElem?_map] at hy0
    obtain ⟨y, hy, rfl⟩ := Option.map_eq_some_iff.mp hy0
    have my := List.mem_of_getElem? hy
    have ly := (List.getElem?_eq_some_iff.mp hy).1
    have ky := fr _ _ (ntD y my) (tq4 y my)
    have gm : ms[i]? = some y.2.1 ∧ y.2.2 = ρ y.2.1 := by
      have h1 : (v2 qs)[i]? = some y.2 := by unfold v2; rw [List.getElem?_map, hy]; rfl
      rw [ev, List.getElem?_map] at h1
      obtain ⟨n, hn, e⟩ := Option.map_eq_some_iff.mp h1
      rw [← e]
      exact ⟨hn, rfl⟩
    refine ⟨y.1, _, rfl, .inl (.inl ky), rfl, _, _, rfl, _, _, rfl, rfl, ?_⟩
    refine ⟨_, rfl, _, rfl, _, rfl, D, _, rfl, .inl ⟨_, Sum.inr y.2.1, kD, rfl, szLt (by rw [kvM_len, List.length_take]; omega), rfl⟩, ?_⟩
    refine ⟨fun b o nb hb => upd_oth (fr b o nb hb) nb, by rw [upd_same, kvM_new (take_fresh ndm gm.1), kvM_snoc gm.1, gm.2], _, _, rfl⟩
  obtain ⟨fr, kD, v4, v5, rfl⟩ := z
  rw [List.length_map, lq, List.take_length] at kD
  have nH : ∀ {z : Addr} {o : HO}, H z = some o → z ≠ D := fun {z o} hz e => by rw [e, fD0] at hz; cases hz
  have sE : Same H H' := fun z o hz => fr z o (nH hz) (s4 _ _ hz)
  refine ⟨_, rfl, f, rfl, ⟨_, .inl (.inl (sE _ _ hf))⟩, ?_⟩
  refine for_list (K := K) (a := f) (xs := ps.map rd) (fun i σ H2 => H' = H2 ∧ ∃ v6, σ = [some (.ref f), some (.ref l), some (.bl false), some (.ref D), v4, v5, v6]) ⟨rfl, none, rfl⟩ (fun i σ H2 _ z => .inl (.inl (by rw [← z.1]; exact sE _ _ hf))) (fun i y0 σ H2 hy0 z => ?_) (fun σ H2 z => ?_)
  · obtain ⟨rfl, v6, rfl⟩ := z
    rw [List.getElem?_map] at hy0
    obtain ⟨y, hy, rfl⟩ := Option.map_eq_some_iff.mp hy0
    have my := List.mem_of_getElem? hy
    have ky := sE _ _ (hD y my)
    have mv : y.2 ∈ vD ps := List.mem_map.mpr ⟨y, my, rfl⟩
    have ed : y.2.2.1 ∈ outsP (bld (vD ps)) y.2.1 := (bld_edge _ _ _).mpr ⟨y.2, mv, rfl, rfl⟩
    obtain ⟨mo, mi⟩ := bld_ends mv
    have m1 := pm.mem_iff.mpr mo
    have m2 := pm.mem_iff.mpr mi
    have g1 : DGet H' D (.str y.2.1) (some (.int (ρ y.2.1))) := .inl ⟨_, Sum.inr y.2.1, .inl kD, rfl, (kvM_val ndm m1).symm⟩
    have g2 : DGet H' D (.str y.2.2.1) (some (.int (ρ y.2.2.1))) := .inl ⟨_, Sum.inr y.2.2.1, .inl kD, rfl, (kvM_val ndm m2).symm⟩
    refine ⟨_, rfl, y.1, _, _, _, rfl, rfl, .inl (.inl ky), rfl, _, rfl, D, _, rfl, g1, _, rfl, iteF ?_⟩
    refine ⟨_, rfl, y.1, _, _, _, rfl, rfl, .inl (.inl ky), rfl, _, rfl, D, _, rfl, g2, _, rfl, iteF ?_⟩
    refine ⟨_, rfl, _, rfl, y.1, _, _, _, rfl, rfl, .inl (.inl ky), rfl, D, _, rfl, g1, _, rfl, _, rfl, y.1, _, _, _, rfl, rfl, .inl (.inl ky), rfl, D, _, rfl, g2, _, _, rfl, rfl, _, rfl, ?_⟩
    refine ite2 (fun c => ?_) (fun c => ⟨rfl, _, rfl⟩)
    have := le y.2 mv
    have := of_decide_eq_true c
    omega
  obtain ⟨rfl, v6, rfl⟩ := z
  exact q _ sE
theorem sc__law_wide_right : FnScope ["script", "names", "book", "k", "j", "found"] ["script"] (defScope (top 19)) := ⟨rfl, rfl, rfl, by decide +kernel, rfl, by decide +kernel, by decide +kernel⟩
def sp__law_wide_right (K : PySem.W.Frag) : Sp := fun vs H Q _ => ∃ (a : Addr) (ns : List Int), vs = [.ref a] ∧ SqL K H a (ns.map V.int) ∧ ∀ H', Q (.bl true) H'
theorem ok__law_wide_right (d__law_wide_right : Dv K mg "_law_wide_right" (top 19) ["script"]) (B : Bl mg) (C : Co mg) (R : Er K mg) (d__law_name : Dv K mg "_law_name" (top 11) ["k", "cell"]) (G__law_name : FnOk P w K mg base CX0 1 d__law_name.f d__law_name.fd ["k", "cell"] (sp__law_name K)) (d__law_cell_at : Dv K mg "_law_cell_at" (top 10) ["script", "k"]) (G__law_cell_at : FnOk P w K mg base CX0 1 d__law_cell_at.f d__law_cell_at.fd ["script", "k"] (sp__law_cell_at K)) (d_ringless : Dv K mg "ringless" (top 5) ["book"]) (G_ringless : FnOk P w K mg base CX0 3 d_ringless.f d_ringless.fd ["book"] (sp_ringless K)) (d_ranks : Dv K mg "ranks" (top 6) ["book"]) (G_ranks : FnOk P w K mg base (CXb P w) 3 d_ranks.f d_ranks.fd ["book"] (sp_ranks K)) : FnOk P w K mg base CX0 4 d__law_wide_right.f d__law_wide_right.fd ["script"] (sp__law_wide_right K) := by
  refine d__law_wide_right.F.ok sc__law_wide_right (fun vs H Q E h => ?_) (fun cdv A outer s H vs Q E hr h => ?_)
  · obtain ⟨_, _, rfl, _⟩ := h; rfl
  obtain ⟨a, ns, rfl, hS, q⟩ := h
  refine ⟨_, (pss_cons (ps_set (i := 1) sc__law_wide_right.nd rfl (Or.inl rfl) (pe_callB call_sortedS rfl B.b_sorted PyProof.Rows.boot_sorted (pa_cons (pe_lcT (N := ["script", "names", "book", "k", "j", "found"]) (M := ["script", "names", "book", "-k", "j", "found"]) (sc := defScope (top 19)) (ts := ["k"]) ⟨by decide +kernel, rfl, by decide +kernel, by decide +kernel, by decide +kernel, rfl, by decide +kernel⟩ rfl rfl rfl (pi_range1 rfl B.b_range (pa_cons pe_int pa_nil)) (fun L_ _ _ _ _ _ => L_.nm rfl 0 rfl rfl _ _ _ _ _) (fun _ _ _ _ _ => pif_nil) (fun _ _ _ _ _ => (pe_call G__law_name (hr.mono (by decide)) rfl d__law_name.m d__law_name.F.kp d__law_name.b .nil pass0 (pa_cons (pv 0) (pa_cons (pe_op op_fdiv (pe_call G__law_cell_at (hr.mono (by decide)) rfl d__law_cell_at.m d__law_cell_at.F.kp d__law_cell_at.b .nil pass0 (pa_cons (pv 1) (pa_cons pe_int pa_nil))) pe_int) pa_nil))))) pa_nil))) (pss_cons (ps_set (i := 2) sc__law_wide_right.nd rfl (Or.inl rfl) (pe_lst pa_nil)) (pss_cons (ps_for PassesOwn.never rfl (pi_range1 rfl B.b_range (pa_cons pe_int pa_nil)) (pg_name (i := 3) sc__law_wide_right.nd rfl (Or.inl rfl)) (pss_one (ps_for PassesOwn.never rfl (pi_range2 rfl B.b_range (pa_cons (pe_op op_add (pv 3) pe_int) (pa_cons pe_int pa_nil))) (pg_name (i := 4) sc__law_wide_right.nd rfl (Or.inl rfl)) (pss_one (ps_expr (pe_bm PySem.F.plainAttrs_list PySem.F.slot_list_append PySem.F.type_list_append mt_append (pv 2) (pa_cons (pe_tup (pa_cons (pe_ix ix_list (pv 1) (pv 3) (fun _ _ => rfl)) (pa_cons (pe_ix ix_list (pv 1) (pv 4) (fun _ _ => rfl)) (pa_cons (pe_op op_add pe_int (pe_op op_mod (pe_call G__law_cell_at (hr.mono (by decide)) rfl d__law_cell_at.m d__law_cell_at.F.kp d__law_cell_at.b .nil pass0 (pa_cons (pv 0) (pa_cons (pe_op op_add pe_int (pe_op op_mod (pe_op op_add (pv 3) (pv 4)) pe_int)) pa_nil))) (pe_op op_pow pe_int pe_int))) pa_nil)))) pa_nil))))))) (pss_cons (ps_set (i := 5) sc__law_wide_right.nd rfl (Or.inl rfl) (pe_call G_ringless (hr.mono (by decide)) rfl d_ringless.m d_ringless.F.kp d_ringless.b .nil pass0 (pa_cons (pe_callTy call_list_of rfl B.b_list PyProof.Rows.boot_list (pa_cons (pv 2) pa_nil)) pa_nil))) (pss_one (ps_ret (pe_and (pe_cmpR (op_eqTD hr.units) (pv 5) (pe_tup (pa_cons (pe_lst pa_nil) (pa_cons (pv 2) pa_nil))) (nomark _)) (pe_one (pe_cmpR (op_eqL (hr.units0)) (pe_lcT (N := ["script", "names", "book", "k", "j", "found"]) (M := ["script", "names", "book", "k", "j", "found"]) (sc := defScope (top 19)) (ts := ["who", "rank"]) ⟨by decide +kernel, rfl, by decide +kernel, by decide +kernel, by decide +kernel, rfl, by decide +kernel⟩ rfl rfl rfl (pi_list (pe_call G_ranks (hr.mono (by decide)) rfl d_ranks.m d_ranks.F.kp d_ranks.b .nil passb0 (pa_cons (pe_callTy call_list_of rfl B.b_list PyProof.Rows.boot_list (pa_cons (pv 2) pa_nil)) pa_nil))) (fun L_ _ _ _ _ _ => pg_tupK K 2 rfl rfl (pgs_cons (L_.nm rfl 0 rfl rfl _ _ _ _ _) (pgs_cons (L_.nm rfl 1 rfl rfl _ _ _ _ _) pgs_nil))) (fun _ _ _ _ _ => pif_nil) (fun _ _ _ _ _ => (pv 1))) (pe_lstRng rfl rfl B.b_list rfl B.b_range pe_int) (nomark _)))))))))), ?_⟩
  refine ⟨_, rfl, by omega, by omega, ?_⟩
  refine comp_valJ (val := fun j : Nat => .int (0 + (j : Int))) (fun i ys H' => ∃ zs : List Str, ys = zs.map V.str ∧ Same H H' ∧ zs.length = i ∧ ∀ j z, zs[j]? = some z → Tell (cell ns 0 / 6) z j) ⟨[], rfl, Same.refl _, rfl, (fun _ _ z => by cases z)⟩ (fun i ys H' z => ?_) (szOk (by omega)) (fun i ys H' hi z => ?_) (fun ys H1 z => ?_)
  · obtain ⟨zs, rfl, _, hn, _⟩ := z
    rw [List.length_map]; exact Nat.le_of_eq hn
  · obtain ⟨zs, rfl, s1, hn, ht⟩ := z
    have hi' : i < 24 := by omega
    refine ⟨rfl, ?_⟩
    refine ⟨_, rfl, _, rfl, a, ns, 0, rfl, s1.seq hS, by decide, _, _, rfl, rfl, ⟨by decide, by decide⟩, _, _, rfl, by omega, by omega, fun z H2 s2 zl tl => ?_⟩
    refine ⟨zs ++ [z], by rw [List.map_append]; rfl, s1.trans s2, by rw [List.length_append, hn]; rfl, fun j y hy => ?_⟩
    rcases Nat.lt_or_ge j zs.length with l | l
    · rw [List.getElem?_append_left l] at hy
      exact ht j y hy
    · rw [List.getElem?_append_right l] at hy
      have e0 : j - zs.length = 0 := by
        have := (List.getElem?_eq_some_iff.mp hy).1
        have : j - zs.length < 1 := this
        omega
      rw [e0] at hy
      cases hy
      have ej : ((0 + (i : Int)) % 26).toNat = j := by omega
      rw [← ej]
      exact tl
  obtain ⟨zs, rfl, s1, hn, ht⟩ := z
  have hn : zs.length = 24 := hn
  have ndz : zs.Nodup := by
    refine List.pairwise_iff_getElem.mpr fun i j hi hj hij => ?_
    exact tell_ne (ht i _ (List.getElem?_eq_getElem hi)) (ht j _ (List.getElem?_eq_getElem hj)) (by omega) (by omega) (by omega)
  intro lz hlz
  have s2 := same_upd' (u := .lst (zs.map V.str)) s1 hlz
  have kz := upd_same (H := H1) (a := lz) (o := .lst (zs.map V.str))
  generalize upd H1 lz (.lst (zs.map V.str)) = H2 at s2 kz
  refine ⟨lz, zs, rfl, .inl (.inl kz), by omega, fun n nm hn0 pm pw0 => ?_⟩
  have nd : nm.Nodup := pm.nodup_iff.mpr ndz
  have l24 : nm.length = 24 := by rw [pm.length_eq, hn]
  have pw := strict_of pw0 nd
  have s3 := same_upd' (u := .lst (nm.map V.str)) s2 hn0
  have kn := upd_same (H := H2) (a := n) (o := .lst (nm.map V.str))
  generalize upd H2 n (.lst (nm.map V.str)) = H3 at s3 kn
  refine ⟨by walk_at "sz", fun L fL => ?_⟩
  have s4 := same_upd' (u := .lst []) s3 fL
  have kL : upd H3 L (.lst []) L = some (.lst (([] : List TD).map rd)) := upd_same
  have kn4 := at_upd (u := .lst []) kn fL
  have nLn : n ≠ L := ne_of_none kn fL
  have fL0 : H L = none := s3.free fL
  generalize upd H3 L (.lst []) = H4 at s4 kL kn4
  refine ⟨_, rfl, by omega, by omega, ?_⟩
  refine for_range (lo := 0) (fun k σ H' => Same H H' ∧ H' n = some (.lst (nm.map V.str)) ∧ (∃ qs : List TD, H' L = some (.lst (qs.map rd)) ∧ Tds H' qs ∧ WB nm k 0 (vD qs) ∧ qs.length ≤ 24 * k) ∧ ∃ v3 v4, σ = [some (.ref a), some (.ref n), some (.ref L), v3, v4, none]) ⟨s4, kn4, ⟨[], kL, (fun _ z => nomatch z), WB.start nm, Nat.le_refl _⟩, none, none, rfl⟩ (fun k σ H' hk z => ?_) (fun σ H' z => ?_)
  · obtain ⟨s5, kn5, ⟨qs, kL5, tq5, wb5, lq5⟩, v3, v4, rfl⟩ := z
    have hk' : k < 24 := by omega
    refine ⟨_, rfl, _, _, rfl, rfl, _, _, rfl, ⟨by omega, by omega, by omega, by omega⟩, ?_⟩
    refine for_range (lo := 0 + (k : Int) + 1) (fun j σ H' => Same H H' ∧ H' n = some (.lst (nm.map V.str)) ∧ (∃ qs : List TD, H' L = some (.lst (qs.map rd)) ∧ Tds H' qs ∧ WB nm k (k + 1 + j) (vD qs) ∧ qs.length ≤ 24 * k + j) ∧ ∃ v4, σ = [some (.ref a), some (.ref n), some (.ref L), some (.int (0 + (k : Int))), v4, none]) ⟨s5, kn5, ⟨qs, kL5, tq5, wb5.low (by omega) (by omega), lq5⟩, _, rfl⟩ (fun j σ H' hj z => ?_) (fun σ H' z => ?_)
    · obtain ⟨s6, kn6, ⟨qs, kL6, tq6, wb6, lq6⟩, v4, rfl⟩ := z
      have hj' : k + 1 + j < 24 := by omega
      have a1 : atI (nm.map V.str) (0 + (k : Int)) = some (V.str (nm[k]'(by omega))) := by rw [Int.zero_add]; exact atI_nat (by rw [List.getElem?_map, List.getElem?_eq_getElem (by omega)]; rfl)
      have a2 : atI (nm.map V.str) (0 + (k : Int) + 1 + (j : Int)) = some (V.str (nm[k + 1 + j]'(by omega))) := by rw [show (0 + (k : Int) + 1 + (j : Int)) = ((k + 1 + j : Nat) : Int) by omega]; exact atI_nat (by rw [List.getElem?_map, List.getElem?_eq_getElem (by omega)]; rfl)
      refine ⟨_, rfl, .inl ⟨rfl, _, .inl (.inl kL6)⟩, _, rfl, _, rfl, n, _, _, _, rfl, rfl, .inl (.inl kn6), a1, _, rfl, _, rfl, n, _, _, _, rfl, rfl, .inl (.inl kn6), a2, ?_⟩
      refine ⟨_, rfl, _, rfl, _, rfl, _, _, rfl, rfl, _, _, rfl, rfl, (by show (0 : Int) < 20; decide), _, _, rfl, rfl, a, ns, _, rfl, s6.seq hS, by omega, _, _, rfl, rfl, (by walk_at "side"), _, _, rfl, rfl, (by show (0 : Int) < 10 ^ 58; decide), _, _, rfl, rfl, by walk_at "sz", fun t ht => ?_⟩
      dsimp only
      have vp : 0 < 1 + cell ns (2 + (0 + (k : Int) + (0 + (k : Int) + 1 + (j : Int))) % 20) % 10 ^ (58 : Int).toNat := by
        have := Int.emod_nonneg (cell ns (2 + (0 + (k : Int) + (0 + (k : Int) + 1 + (j : Int))) % 20)) (show (10 : Int) ^ (58 : Int).toNat ≠ 0 by decide)
        omega
      generalize 1 + cell ns (2 + (0 + (k : Int) + (0 + (k : Int) + 1 + (j : Int))) % 20) % 10 ^ (58 : Int).toNat = v at vp
      have ut := same_upd (u := .tup [V.str (nm[k]'(by omega)), V.str (nm[k + 1 + j]'(by omega)), V.int v]) ht
      have nt : t ≠ L := fun z => by rw [z, kL6] at ht; cases ht
      refine ⟨L, _, _, rfl, rfl, ut _ _ kL6, by rw [List.length_map]; exact szLt (by omega), ?_⟩
      refine ⟨same_updN (s6.trans ut) fL0, upd_oth (ut _ _ kn6) nLn, ⟨qs ++ [(t, nm[k]'(by omega), nm[k + 1 + j]'(by omega), v)], by rw [upd_same, List.map_append]; rfl, fun p hp => ?_, ?_, by rw [List.length_append]; show _ + 1 ≤ _; omega⟩, _, rfl⟩
      · rcases List.mem_append.mp hp with hp | hp
        · have h1 := tq6 p hp
          exact upd_oth (ut _ _ h1) fun z => by rw [z, kL6] at h1; cases h1
        · rw [List.mem_singleton.mp hp]; exact upd_oth upd_same nt
      · have := wb6.add pw (k := k) (j := k + 1 + j) (by omega) (by omega) (by omega) vp
        unfold vD at this ⊢
        rw [List.map_append]
        exact this
    · obtain ⟨s6, kn6, ⟨qs, kL6, tq6, wb6, lq6⟩, v4, rfl⟩ := z
      exact ⟨s6, kn6, ⟨qs, kL6, tq6, wb6.row (by omega) (by omega), by omega⟩, _, _, rfl⟩
  obtain ⟨s5, kn5, ⟨qs, kL5, tq5, wb5, lq5⟩, v3, v4, rfl⟩ := z
  have wb5 : WB nm 24 0 (vD qs) := wb5
  have lq5 : qs.length ≤ 600 := by have : qs.length ≤ 24 * 24 := lq5; omega
  have fro : ∀ p ∈ vD qs, ∃ i j, ∃ (hi : i < nm.length) (hj : j < nm.length), i < j ∧ p.1 = nm[i] ∧ p.2.1 = nm[j] := fun p hp => by
    obtain ⟨i, j, hi, hj, lt, _, e⟩ := wb5.fro p hp
    exact ⟨i, j, hi, hj, lt, e⟩
  have to := fun i j hi hj lt => wb5.to i j hi hj lt (.inl (by omega))
  have acy := wide_acy nd fro
  have pw3 : qs.Pairwise (fun a b => lt3 a b = true) := (List.pairwise_map.mp wb5.sr).imp fun {a b} h => (lt3_iff a b).mpr h
  have posq : ∀ p ∈ qs, 0 < p.2.2.2 := fun p hp => wb5.pos p.2 (List.mem_map.mpr ⟨p, hp, rfl⟩)
  have memq : ∀ p ∈ qs, p.2.1 ∈ nm ∧ p.2.2.1 ∈ nm := fun p hp => by
    obtain ⟨i, j, hi, hj, _, e1, e2⟩ := fro p.2 (List.mem_map.mpr ⟨p, hp, rfl⟩)
    rw [e1, e2]
    exact ⟨List.getElem_mem hi, List.getElem_mem hj⟩
  refine ⟨_, rfl, L, _, rfl, .inl (.inl (.inl kL5)), fun l9 hl9 => ?_⟩
  have s9 := same_upd (u := .lst (qs.map rd)) hl9
  refine ⟨l9, qs, nm, rfl, upd_same, fun p hp => s9 _ _ (tq5 p hp), lq5, pw3, posq, memq, by omega, fun HK t c r cs rs A sK kt kcc krr tcs trs evc evr nn wk _ => ?_⟩
  have sK := s9.trans sK
  have e1 : vD rs = vD qs := (Wk.det wk (.stop fun c ⟨_, ok, _⟩ => acy_noring acy ok))
  have e0 : vD cs = vD ([] : List TD) := by
    rw [evc]
    exact cur_all (by rw [← evr]; exact e1)
  refine ⟨_, rfl, by walk_at "sz", fun l0 hl0 => ⟨_, rfl, by walk_at "sz", fun t2 ht2 => ?_⟩⟩
  have u0 := same_upd (u := .lst []) hl0
  have k0 : upd HK l0 (.lst []) l0 = some (.lst (([] : List TD).map rd)) := upd_same
  have u2 := same_upd (u := .tup [V.ref l0, V.ref L]) ht2
  have k2 : upd (upd HK l0 (.lst [])) t2 (.tup [V.ref l0, V.ref L]) t2 = some (.tup [V.ref l0, V.ref L]) := upd_same
  have k0 := u2 _ _ k0
  have u3 := u0.trans u2
  have sZ := sK.trans u3
  generalize upd (upd HK l0 (.lst [])) t2 (.tup [V.ref l0, V.ref L]) = HZ at u2 k2 k0 u3 sZ
  refine ⟨t, t2, _, _, rfl, rfl, .inl (.inl (u3 _ _ kt)), .inl (.inl k2), rfl, fun _ => true, fun j hj => ?_, ?_⟩
  · rcases j with _ | _ | j
    · exact eq_tds (n := 58) (u3 _ _ kcc) k0 (fun p hp => u3 _ _ (tcs p hp)) (fun p hp => nomatch hp) e0
    · exact eq_tds (n := 58) (u3 _ _ krr) (sZ _ _ kL5) (fun p hp => u3 _ _ (trs p hp)) (fun p hp => sZ _ _ (tq5 p hp)) e1
    · exact absurd hj (by show ¬ j + 2 < 2; omega)
  refine ⟨_, rfl, iteT ?_⟩
  refine ⟨_, rfl, L, _, rfl, .inl (.inl (.inl (sZ _ _ kL5))), fun l8 hl8 => ?_⟩
  have u8 := same_upd (u := .lst (qs.map rd)) hl8
  refine ⟨l8, qs, nm, rfl, upd_same, fun p hp => u8 _ _ (sZ _ _ (tq5 p hp)), lq5, wb5.sr, memq, by omega, acy, fun HR lr us ms ρ sR klr tus ev pmr pwr le ex => ⟨lr, rfl, ⟨_, .inl (.inl klr)⟩, ?_⟩⟩
  have lus : us.length ≤ 24 := by
    have := congrArg List.length (wide_ranks nd (by omega) pw to fro le ex ev pmr pwr)
    rw [List.length_map, List.length_map, List.length_range] at this
    omega
  refine comp_all (K := K) (a := lr) (ps := us) (r := r2) (fun u => V.int u.2.2) (.inl (.inl klr)) (szOk (by omega)) (fun u H' hu sm R hR => ⟨u.1, _, rfl, .inl (.inl (sm _ _ (tus u hu))), rfl, _, _, rfl, _, _, rfl, rfl, rfl, _, rfl, hR _ (Same.refl _)⟩) (fun H9 s9 lc hlc => ?_)
  refine ⟨24, rfl, by decide, fun Lr hLr => ?_⟩
  have ev2 : (us.map fun u => V.int u.2.2) = ((List.range 24).map fun (i : Nat) => (i : Int)).map V.int := by
    have := wide_ranks nd (by omega) pw to fro le ex ev pmr pwr
    rw [l24] at this
    rw [← this, List.map_map]
    rfl
  rw [ev2] at hLr ⊢
  rw [rng_ints]
  refine ⟨lc, Lr, _, _, rfl, rfl, .inl (.inl (at_upd upd_same hLr)), .inl (.inl upd_same), ints_flat _, ints_flat _, ?_⟩
  rw [eqVs_refl (ints_flat _)]
  exact q _
theorem sc_law : FnScope ["script", "many", "names", "book", "handed", "found"] ["script"] (defScope (top 20)) := ⟨rfl, rfl, rfl, by decide +kernel, rfl, by decide +kernel, by decide +kernel⟩
def sp_law (K : PySem.W.Frag) : Sp := fun vs H Q _ => ∃ (a : Addr) (ns : List Int), vs = [.ref a] ∧ SqL K H a (ns.map V.int) ∧ ns.length ≤ 63 ∧ (∀ n ∈ ns, Bts n) ∧ ∀ H', Q (.bl true) H'
theorem ok_law (d_law : Dv K mg "law" (top 20) ["script"]) (B : Bl mg) (C : Co mg) (R : Er K mg) (d__law_cell_at : Dv K mg "_law_cell_at" (top 10) ["script", "k"]) (G__law_cell_at : FnOk P w K mg base CX0 1 d__law_cell_at.f d__law_cell_at.fd ["script", "k"] (sp__law_cell_at K)) (d__law_name : Dv K mg "_law_name" (top 11) ["k", "cell"]) (G__law_name : FnOk P w K mg base CX0 1 d__law_name.f d__law_name.fd ["k", "cell"] (sp__law_name K)) (d__law_book : Dv K mg "_law_book" (top 13) ["deeds", "names"]) (G__law_book : FnOk P w K mg base CX0 1 d__law_book.f d__law_book.fd ["deeds", "names"] (sp__law_book K)) (d__law_deeds : Dv K mg "_law_deeds" (top 12) ["script", "many"]) (G__law_deeds : FnOk P w K mg base CX0 2 d__law_deeds.f d__law_deeds.fd ["script", "many"] (sp__law_deeds K)) (d_ringless : Dv K mg "ringless" (top 5) ["book"]) (G_ringless : FnOk P w K mg base CX0 3 d_ringless.f d_ringless.fd ["book"] (sp_ringless K)) (d__law_parted : Dv K mg "_law_parted" (top 16) ["book", "cuts", "left"]) (G__law_parted : FnOk P w K mg base CX0 1 d__law_parted.f d__law_parted.fd ["book", "cuts", "left"] (sp__law_parted K)) (d__law_dues : Dv K mg "_law_dues" (top 15) ["rows"]) (G__law_dues : FnOk P w K mg base CX0 2 d__law_dues.f d__law_dues.fd ["rows"] (sp__law_dues K)) (d__law_sums : Dv K mg "_law_sums" (top 17) ["rows", "names"]) (G__law_sums : FnOk P w K mg base CX0 1 d__law_sums.f d__law_sums.fd ["rows", "names"] (sp__law_sums K)) (d__law_goes_up : Dv K mg "_law_goes_up" (top 18) ["left"]) (G__law_goes_up : FnOk P w K mg base CX0 4 d__law_goes_up.f d__law_goes_up.fd ["left"] (sp__law_goes_up K)) (d__law_wide_right : Dv K mg "_law_wide_right" (top 19) ["script"]) (G__law_wide_right : FnOk P w K mg base CX0 4 d__law_wide_right.f d__law_wide_right.fd ["script"] (sp__law_wide_right K)) : FnOk P w K mg base CX0 5 d_law.f d_law.fd ["script"] (sp_law K) := by
  refine d_law.F.ok sc_law (fun vs H Q E h => ?_) (fun cdv A outer s H vs Q E hr h => ?_)
  · obtain ⟨_, _, rfl, _⟩ := h; rfl
  obtain ⟨a, ns, rfl, hS, h63, hB, q⟩ := h
  refine ⟨_, (pss_cons (ps_set (i := 1) sc_law.nd rfl (Or.inl rfl) (pe_op op_add pe_int (pe_op op_mod (pe_call G__law_cell_at (hr.mono (by decide)) rfl d__law_cell_at.m d__law_cell_at.F.kp d__law_cell_at.b .nil pass0 (pa_cons (pv 0) (pa_cons pe_int pa_nil))) pe_int))) (pss_cons (ps_lc (i := 2) sc_law.nd rfl rfl (N := ["script", "many", "names", "book", "handed", "found"]) (sc := defScope (top 20)) ⟨by decide +kernel, rfl, rfl, by decide +kernel, by decide +kernel, by decide +kernel, by decide +kernel⟩ rfl rfl rfl (pi_range1 rfl B.b_range (pa_cons (pv 1) pa_nil)) (fun _ _ _ _ _ => pif_nil) (fun _ _ _ _ _ => (pe_call G__law_name (hr.mono (by decide)) rfl d__law_name.m d__law_name.F.kp d__law_name.b .nil pass0 (pa_cons (pv 0) (pa_cons (pe_op op_fdiv (pe_call G__law_cell_at (hr.mono (by decide)) rfl d__law_cell_at.m d__law_cell_at.F.kp d__law_cell_at.b .nil pass0 (pa_cons (pv 1) (pa_cons pe_int pa_nil))) pe_int) pa_nil))))) (pss_cons (ps_set (i := 3) sc_law.nd rfl (Or.inl rfl) (pe_call G__law_book (hr.mono (by decide)) rfl d__law_book.m d__law_book.F.kp d__law_book.b .nil pass0 (pa_cons (pe_call G__law_deeds (hr.mono (by decide)) rfl d__law_deeds.m d__law_deeds.F.kp d__law_deeds.b .nil pass0 (pa_cons (pv 0) (pa_cons (pv 1) pa_nil))) (pa_cons (pv 2) pa_nil)))) (pss_cons (ps_set (i := 4) sc_law.nd rfl (Or.inl rfl) (pe_callTy call_list_of rfl B.b_list PyProof.Rows.boot_list (pa_cons (pv 3) pa_nil))) (pss_cons (ps_set (i := 5) sc_law.nd rfl (Or.inl rfl) (pe_call G_ringless (hr.mono (by decide)) rfl d_ringless.m d_ringless.F.kp d_ringless.b .nil pass0 (pa_cons (pv 4) pa_nil))) (pss_cons (ps_if (PW.pt (pw_or (pt_not (pt_val (pe_callB call_isinst rfl B.b_isinstance PyProof.Rows.boot_isinstance (pa_cons (pv 5) (pa_cons (pe_bltn (v := .ty "tuple") rfl B.b_tuple PyProof.Rows.boot_tuple rfl) pa_nil))) (fun _ => rfl))) (pw_or (pt_cmpR op_ne (pe_callB call_len_seq rfl B.b_len PySem.boot_len (pa_cons (pv 5) pa_nil)) pe_int (nomark _)) (pw_or1 (pt_cmpR (op_neD hr.units) (pv 4) (pv 3) (nomark _)))))) (pss_one (ps_ret pe_bl)) pss_nil) (pss_cons (ps_if (PW.pt (pw_or (pt_not (pt_val (pe_call G__law_dues (hr.mono (by decide)) rfl d__law_dues.m d__law_dues.F.kp d__law_dues.b .nil pass0 (pa_cons (pe_ix ix_tup (pv 5) pe_int (fun _ _ => rfl)) pa_nil)) (fun _ => rfl))) (pw_or (pt_not (pt_val (pe_call G__law_dues (hr.mono (by decide)) rfl d__law_dues.m d__law_dues.F.kp d__law_dues.b .nil pass0 (pa_cons (pe_ix ix_tup (pv 5) pe_int (fun _ _ => rfl)) pa_nil)) (fun _ => rfl))) (pw_or1 (pt_not (pt_val (pe_call G__law_parted (hr.mono (by decide)) rfl d__law_parted.m d__law_parted.F.kp d__law_parted.b .nil pass0 (pa_cons (pv 3) (pa_cons (pe_ix ix_tup (pv 5) pe_int (fun _ _ => rfl)) (pa_cons (pe_ix ix_tup (pv 5) pe_int (fun _ _ => rfl)) pa_nil)))) (fun _ => rfl))))))) (pss_one (ps_ret pe_bl)) pss_nil) (pss_cons (ps_if (pt_cmpR (op_neDK hr.units) (pe_call G__law_sums (hr.mono (by decide)) rfl d__law_sums.m d__law_sums.F.kp d__law_sums.b .nil pass0 (pa_cons (pe_ix ix_tup (pv 5) pe_int (fun _ _ => rfl)) (pa_cons (pv 2) pa_nil))) (pe_call G__law_sums (hr.mono (by decide)) rfl d__law_sums.m d__law_sums.F.kp d__law_sums.b .nil pass0 (pa_cons (pv 3) (pa_cons (pv 2) pa_nil))) (nomark _)) (pss_one (ps_ret pe_bl)) pss_nil) (pss_cons (ps_if (pt_not (pt_val (pe_call G__law_goes_up (hr.mono (by decide)) rfl d__law_goes_up.m d__law_goes_up.F.kp d__law_goes_up.b .nil pass0 (pa_cons (pe_ix ix_tup (pv 5) pe_int (fun _ _ => rfl)) pa_nil)) (fun _ => rfl))) (pss_one (ps_ret pe_bl)) pss_nil) (pss_cons (ps_expr (pe_bm PySem.F.plainAttrs_list PySem.F.slot_list_append PySem.F.type_list_append mt_append (pe_ix ix_tup (pv 5) pe_int (fun _ _ => rfl)) (pa_cons (pe_tup (pa_cons (pe_ix ix_list (pv 2) pe_int (fun _ _ => rfl)) (pa_cons (pe_ix ix_list (pv 2) pe_int (fun _ _ => rfl)) (pa_cons pe_int pa_nil)))) pa_nil))) (pss_cons (ps_if (pt_cmpR (op_neD hr.units) (pv 4) (pv 3) (nomark _)) (pss_one (ps_ret pe_bl)) pss_nil) (pss_one (ps_ret (pe_or (pe_cmpR op_ne (pe_op op_mod (pe_op op_fdiv (pe_call G__law_cell_at (hr.mono (by decide)) rfl d__law_cell_at.m d__law_cell_at.F.kp d__law_cell_at.b .nil pass0 (pa_cons (pv 0) (pa_cons pe_int pa_nil))) pe_int) pe_int) pe_int (nomark _)) (pe_one (pe_call G__law_wide_right (hr.mono (by decide)) rfl d__law_wide_right.m d__law_wide_right.F.kp d__law_wide_right.b .nil pass0 (pa_cons (pv 0) pa_nil))))))))))))))))), ?_⟩
  refine ⟨_, rfl, a, ns, 0, rfl, hS, by decide, _, _, rfl, rfl, (by walk_at "side"), _, _, rfl, rfl, ?_⟩
  obtain ⟨m, em, m3, m8⟩ : ∃ m : Nat, 3 + cell ns 0 % 6 = (m : Int) ∧ 3 ≤ m ∧ m ≤ 8 := ⟨(3 + cell ns 0 % 6).toNat, by omega, by omega, by omega⟩
  dsimp only
  rw [em]
  refine ⟨_, rfl, _, rfl, by omega, by omega, ?_⟩
  refine comp_valJ (val := fun j : Nat => .int (0 + (j : Int))) (fun i ys H' => ∃ zs : List Str, ys = zs.map V.str ∧ Same H H' ∧ zs.length = i ∧ ∀ j z, zs[j]? = some z → Tell (cell ns 0 / 6) z j) ⟨[], rfl, Same.refl _, rfl, (fun _ _ z => by cases z)⟩ (fun i ys H' z => ?_) (szOk (by omega)) (fun i ys H' hi z => ?_) (fun ys H1 z => ?_)
  · obtain ⟨zs, rfl, _, hn, _⟩ := z
    rw [List.length_map]; exact Nat.le_of_eq hn
  · obtain ⟨zs, rfl, s1, hn, ht⟩ := z
    have hi' : i < 8 := by omega
    refine ⟨rfl, ?_⟩
    refine ⟨_, rfl, _, rfl, a, ns, 0, rfl, s1.seq hS, by decide, _, _, rfl, rfl, ⟨by decide, by decide⟩, _, _, rfl, by omega, by omega, fun z H2 s2 zl tl => ?_⟩
    refine ⟨zs ++ [z], by rw [List.map_append]; rfl, s1.trans s2, by rw [List.length_append, hn]; rfl, fun j y hy => ?_⟩
    rcases Nat.lt_or_ge j zs.length with l | l
    · rw [List.getElem?_append_left l] at hy
      exact ht j y hy
    · rw [List.getElem?_append_right l] at hy
      have e0 : j - zs.length = 0 := by
        have := (List.getElem?_eq_some_iff.mp hy).1
        have : j - zs.length < 1 := this
        omega
      rw [e0] at hy
      cases hy
      have ej : ((0 + (i : Int)) % 26).toNat = j := by omega
      rw [← ej]
      exact tl
  obtain ⟨nm, rfl, s1, hn, ht⟩ := z
  rw [Int.toNat_natCast] at hn
  subst hn
  have nd : nm.Nodup := by
    refine List.pairwise_iff_getElem.mpr fun i j hi hj hij => ?_
    exact tell_ne (ht i _ (List.getElem?_eq_getElem hi)) (ht j _ (List.getElem?_eq_getElem hj)) (by omega) (by omega) (by omega)
  intro b hb
  have s2 := same_upd' (u := .lst (nm.map V.str)) s1 hb
  have kb := upd_same (H := H1) (a := b) (o := .lst (nm.map V.str))
  generalize upd H1 b (.lst (nm.map V.str)) = H2 at s2 kb
  refine ⟨_, rfl, _, rfl, a, ns, nm.length, rfl, s2.seq hS, h63, hB, m3, m8, fun H3 D ds s3 fD kD hDe ld => ?_⟩
  have kb := s3 _ _ kb
  have sm3 := s2.trans s3
  refine ⟨_, rfl, D, b, ds, nm, rfl, kD, hDe, kb, nd, m8, ld, fun H4 bk ps s4 fbk kbk hP bok pos lp pw3 => ?_⟩
  have mem : ∀ p ∈ ps, p.2.1 ∈ nm ∧ p.2.2.1 ∈ nm := fun p hp => bok.mem p.2 (List.mem_map.mpr ⟨p, hp, rfl⟩)
  have kb := s4 _ _ kb
  have sm4 := sm3.trans s4
  refine ⟨_, rfl, bk, _, rfl, .inl (.inl (.inl kbk)), fun lh hlh => ?_⟩
  have uh := same_upd (u := .lst (ps.map rd)) hlh
  have kh : upd H4 lh (.lst (ps.map rd)) lh = some (.lst (ps.map rd)) := upd_same
  have sm5 := sm4.trans uh
  have kbk5 := uh _ _ kbk
  have kb5 := uh _ _ kb
  have hP5 : Tds (upd H4 lh (.lst (ps.map rd))) ps := fun p hp => uh _ _ (hP p hp)
  generalize upd H4 lh (.lst (ps.map rd)) = H5 at kh sm5 kbk5 kb5 hP5
  clear uh hlh kbk hP s4 s3 s2 kD hDe
  refine ⟨_, rfl, lh, ps, nm, rfl, kh, hP5, by omega, pw3, pos, mem, by omega, fun H6 t c r cs rs A s6 kt kc kr tc tr evc evr nn wk fr => ?_⟩
  have sm6 := sm5.trans s6
  have pwv := s3_of pw3
  have posv : ∀ p ∈ vD ps, 0 < p.2.2 := fun p hp => by obtain ⟨z, hz, rfl⟩ := List.mem_map.mp hp; exact pos z hz
  have an := part_more pwv posv nn (by rw [← evr]; exact wk)
  have memr : ∀ p ∈ rs, p.2.1 ∈ nm ∧ p.2.2.1 ∈ nm := fun p hp => by
    have h1 : p.2 ∈ vD rs := List.mem_map.mpr ⟨p, hp, rfl⟩
    rw [evr] at h1
    obtain ⟨_, z, hz, e1, e2⟩ := cur_mem h1
    obtain ⟨y, hy, rfl⟩ := List.mem_map.mp hz
    rw [← e1, ← e2]
    exact mem y hy
  have posc : ∀ p ∈ cs, 0 < p.2.2.2 := fun p hp => by
    have h1 : p.2 ∈ vD cs := List.mem_map.mpr ⟨p, hp, rfl⟩
    rw [evc] at h1
    exact of_decide_eq_true (List.mem_filter.mp h1).2
  have posr : ∀ p ∈ rs, 0 < p.2.2.2 := fun p hp => by
    have h1 : p.2 ∈ vD rs := List.mem_map.mpr ⟨p, hp, rfl⟩
    rw [evr] at h1
    exact (cur_mem h1).1
  have lrs : rs.length ≤ 600 := by
    have h1 := congrArg List.length evr
    have h2 : (cur (vD ps) A).length ≤ (vD ps).length := by
      unfold cur
      refine Nat.le_trans (List.length_filter_le _ _) ?_
      rw [List.length_map]
      exact Nat.le_refl _
    rw [vD_len] at h1 h2
    omega
  have neq : ∀ {H' : Hp} {Q : VK}, Same H5 H' → Q (.bl false) H' → rEqD K true (.ref lh) (.ref bk) H' Q := fun {H' Q} s q => ⟨lh, bk, _, _, rfl, rfl, .inl (.inl (s _ _ kh)), .inl (.inl (s _ _ kbk5)), .inr ⟨rfl, fun _ => true, fun j hj => eq_rds hj, by rw [if_pos rfl, all_true]; exact q⟩⟩
  refine ⟨_, rfl, _, _, _, _, true, rfl, .tup kt, rfl, rfl, _, rfl, iteF ?_⟩
  refine ⟨_, rfl, t, _, rfl, .inr (.inl (.inl kt)), rfl, _, rfl, iteNS rfl ?_⟩
  refine ⟨_, rfl, _, rfl, neq s6 ⟨_, rfl, iteF ?_⟩⟩
  refine ⟨_, rfl, t, _, _, _, rfl, rfl, .inl (.inl kt), rfl, c, cs, rfl, kc, tc, posc, _, rfl, iteF ?_⟩
  refine ⟨_, rfl, t, _, _, _, rfl, rfl, .inl (.inl kt), rfl, r, rs, rfl, kr, tr, posr, _, rfl, iteF ?_⟩
  refine ⟨_, rfl, _, rfl, t, _, _, _, rfl, rfl, .inl (.inl kt), rfl, _, rfl, t, _, _, _, rfl, rfl, .inl (.inl kt), rfl, bk, c, r, ps, cs, rs, A, rfl, s6 _ _ kbk5, fun p hp => s6 _ _ (hP5 p hp), kc, tc, kr, tr, pwv, fun p hp => ⟨nn p hp, an p hp⟩, evc, evr, fun H7 s7 => ⟨_, rfl, iteF ?_⟩⟩
  have s67 := s6.trans s7
  refine ⟨_, rfl, t, _, _, _, rfl, rfl, .inl (.inl (s7 _ _ kt)), rfl, _, rfl, r, b, rs, nm, rfl, s7 _ _ kr, fun p hp => s7 _ _ (tr p hp), s67 _ _ kb5, nd, by omega, memr, fun H8 D1 s8 kD1 => ?_⟩
  have s68 := s67.trans s8
  refine ⟨_, rfl, _, rfl, bk, b, ps, nm, rfl, s68 _ _ kbk5, fun p hp => s68 _ _ (hP5 p hp), s68 _ _ kb5, nd, by omega, mem, fun H9 D2 s9 kD2 => ?_⟩
  have enet : netI (vD rs) = netI (vD ps) := funext fun z => wk.net pwv posv z
  rw [enet] at kD1
  refine ⟨D1, D2, _, rfl, rfl, s9 _ _ kD1, kD2, kvM_ints, _, rfl, iteF ?_⟩
  have s79 := s8.trans s9
  have s69 := s7.trans s79
  refine ⟨_, rfl, t, _, _, _, rfl, rfl, .inl (.inl (s69 _ _ kt)), rfl, r, rs, nm, rfl, s69 _ _ kr, fun p hp => s69 _ _ (tr p hp), lrs, by rw [evr]; exact cur_s3 pwv, memr, by omega, wk_acy wk.nor, fun HA sA => ⟨_, rfl, iteF ?_⟩⟩
  have s6A := s69.trans sA
  have s5A := s6.trans s6A
  have kbA := s5A _ _ kb5
  have a0 : atI (nm.map V.str) 0 = some (V.str (nm[0]'(by omega))) := atI_nat (j := 0) (by rw [List.getElem?_map, List.getElem?_eq_getElem (by omega)]; rfl)
  have a1 : atI (nm.map V.str) 1 = some (V.str (nm[1]'(by omega))) := atI_nat (j := 1) (by rw [List.getElem?_map, List.getElem?_eq_getElem (by omega)]; rfl)
  refine ⟨_, rfl, t, _, _, _, rfl, rfl, .inl (.inl (s6A _ _ kt)), rfl, .inl ⟨rfl, _, .inl (.inl (s6A _ _ kr))⟩, _, rfl, b, _, _, _, rfl, rfl, .inl (.inl kbA), a0, _, rfl, b, _, _, _, rfl, rfl, .inl (.inl kbA), a1, by walk_at "sz", fun tt htt => ?_⟩
  have ut := same_upd (u := .tup [V.str (nm[0]'(by omega)), V.str (nm[1]'(by omega)), V.int 1]) htt
  refine ⟨r, _, _, rfl, rfl, ut _ _ (s6A _ _ kr), by rw [List.length_map]; exact szLt (by omega), ?_⟩
  have sF := same_updN (u := .lst (rs.map rd ++ [V.ref tt])) (s5A.trans ut) fr
  generalize upd (upd HA tt (.tup [V.str (nm[0]'(by omega)), V.str (nm[1]'(by omega)), V.int 1])) r (.lst (rs.map rd ++ [V.ref tt])) = HF at sF
  refine ⟨_, rfl, _, rfl, neq sF ⟨_, rfl, iteF ?_⟩⟩
  have smF := sm5.trans sF
  refine ⟨_, rfl, a, ns, 0, rfl, smF.seq hS, by decide, _, _, rfl, rfl, ⟨by decide, by decide⟩, _, _, rfl, rfl, (by walk_at "side"), rfl, _, rfl, ?_⟩
  refine ite2 (fun _ => ?_) (fun _ => ?_)
  · exact q _
  exact ⟨_, rfl, a, ns, rfl, smF.seq hS, q⟩
end
theorem all_mk {l : PySem.W.OpenLaw} {w : World} {K : PySem.W.Frag} {h : Heap} {mg : Str → Option Value} {fa f_Ways___init__ f_Ways_names f_Ways_is_owed f_Ways_take_off f_Ways_leave f_Ways_last_first f_Ways_round_from f_above_nought f_cut_out f_ringless f__law_cell_at f__law_name f__law_deeds f__law_book f_ranks f__law_whole f__law_dues f__law_sums f__law_parted f__law_goes_up f__law_wide_right f_law c_Ring c_Ways : Addr} (X : K.In h) (G : h.Ns mainGlobals mg) (hfa : mg "law" = some (.ref fa))
    {od_Ways___init__ an_Ways___init__ od_Ways_names an_Ways_names od_Ways_is_owed an_Ways_is_owed od_Ways_take_off an_Ways_take_off od_Ways_leave an_Ways_leave od_Ways_last_first an_Ways_last_first od_Ways_round_from an_Ways_round_from od_above_nought an_above_nought od_cut_out an_cut_out od_ringless an_ringless od__law_cell_at an__law_cell_at od__law_name an__law_name od__law_deeds an__law_deeds od__law_book an__law_book od_ranks an_ranks od__law_whole an__law_whole od__law_dues an__law_dues od__law_sums an__law_sums od__law_parted an__law_parted od__law_goes_up an__law_goes_up od__law_wide_right an__law_wide_right od_law an_law : Option Addr} {sl_Ways___init__ sl_Ways_names sl_Ways_is_owed sl_Ways_take_off sl_Ways_leave sl_Ways_last_first sl_Ways_round_from sl_above_nought sl_cut_out sl_ringless sl__law_cell_at sl__law_name sl__law_deeds sl__law_book sl_ranks sl__law_whole sl__law_dues sl__law_sums sl__law_parted sl__law_goes_up sl__law_wide_right sl_law : Array (Option Value)} {oc_Ways___init__ kV_Ways___init__ dc_Ways___init__ pm_Ways___init__ cd_Ways___init__ ct_Ways___init__ oc_Ways_names kV_Ways_names dc_Ways_names pm_Ways_names cd_Ways_names ct_Ways_names oc_Ways_is_owed kV_Ways_is_owed dc_Ways_is_owed pm_Ways_is_owed cd_Ways_is_owed ct_Ways_is_owed oc_Ways_take_off kV_Ways_take_off dc_Ways_take_off pm_Ways_take_off cd_Ways_take_off ct_Ways_take_off oc_Ways_leave kV_Ways_leave dc_Ways_leave pm_Ways_leave cd_Ways_leave ct_Ways_leave oc_Ways_last_first kV_Ways_last_first dc_Ways_last_first pm_Ways_last_first cd_Ways_last_first ct_Ways_last_first oc_Ways_round_from kV_Ways_round_from dc_Ways_round_from pm_Ways_round_from cd_Ways_round_from ct_Ways_round_from oc_above_nought kV_above_nought dc_above_nought pm_above_nought cd_above_nought ct_above_nought oc_cut_out kV_cut_out dc_cut_out pm_cut_out cd_cut_out ct_cut_out oc_ringless kV_ringless dc_ringless pm_ringless cd_ringless ct_ringless oc__law_cell_at kV__law_cell_at dc__law_cell_at pm__law_cell_at cd__law_cell_at ct__law_cell_at oc__law_name kV__law_name dc__law_name pm__law_name cd__law_name ct__law_name oc__law_deeds kV__law_deeds dc__law_deeds pm__law_deeds cd__law_deeds ct__law_deeds oc__law_book kV__law_book dc__law_book pm__law_book cd__law_book ct__law_book oc_ranks kV_ranks dc_ranks pm_ranks cd_ranks ct_ranks oc__law_whole kV__law_whole dc__law_whole pm__law_whole cd__law_whole ct__law_whole oc__law_dues kV__law_dues dc__law_dues pm__law_dues cd__law_dues ct__law_dues oc__law_sums kV__law_sums dc__law_sums pm__law_sums cd__law_sums ct__law_sums oc__law_parted kV__law_parted dc__law_parted pm__law_parted cd__law_parted ct__law_parted oc__law_goes_up kV__law_goes_up dc__law_goes_up pm__law_goes_up cd__law_goes_up ct__law_goes_up oc__law_wide_right kV__law_wide_right dc__law_wide_right pm__law_wide_right cd__law_wide_right ct__law_wide_right oc_law kV_law dc_law pm_law cd_law ct_law : Value}  {xc_Ring : ClassData}
    (l_Ways___init__ : K.lookup f_Ways___init__ = some ⟨oc_Ways___init__, od_Ways___init__, .func (PySem.W.fnOf "__init__" "Ways.__init__" (defArgs (sub 4 0)) (defBody (sub 4 0)) (defScope (sub 4 0)) .none kV_Ways___init__ dc_Ways___init__ pm_Ways___init__ an_Ways___init__ cd_Ways___init__ ct_Ways___init__), sl_Ways___init__⟩)
    (q_Ways___init__ : PySem.W.codeIn K cd_Ways___init__ "Ways.__init__" = true)
    (k_Ways___init__ : PySem.W.keepIn K (.ref f_Ways___init__) = true)
    (l_Ways_names : K.lookup f_Ways_names = some ⟨oc_Ways_names, od_Ways_names, .func (PySem.W.fnOf "names" "Ways.names" (defArgs (sub 4 1)) (defBody (sub 4 1)) (defScope (sub 4 1)) .none kV_Ways_names dc_Ways_names pm_Ways_names an_Ways_names cd_Ways_names ct_Ways_names), sl_Ways_names⟩)
    (q_Ways_names : PySem.W.codeIn K cd_Ways_names "Ways.names" = true)
    (k_Ways_names : PySem.W.keepIn K (.ref f_Ways_names) = true)
    (l_Ways_is_owed : K.lookup f_Ways_is_owed = some ⟨oc_Ways_is_owed, od_Ways_is_owed, .func (PySem.W.fnOf "is_owed" "Ways.is_owed" (defArgs (sub 4 2)) (defBody (sub 4 2)) (defScope (sub 4 2)) .none kV_Ways_is_owed dc_Ways_is_owed pm_Ways_is_owed an_Ways_is_owed cd_Ways_is_owed ct_Ways_is_owed), sl_Ways_is_owed⟩)
    (q_Ways_is_owed : PySem.W.codeIn K cd_Ways_is_owed "Ways.is_owed" = true)
    (k_Ways_is_owed : PySem.W.keepIn K (.ref f_Ways_is_owed) = true)
    (l_Ways_take_off : K.lookup f_Ways_take_off = some ⟨oc_Ways_take_off, od_Ways_take_off, .func (PySem.W.fnOf "take_off" "Ways.take_off" (defArgs (sub 4 3)) (defBody (sub 4 3)) (defScope (sub 4 3)) .none kV_Ways_take_off dc_Ways_take_off pm_Ways_take_off an_Ways_take_off cd_Ways_take_off ct_Ways_take_off), sl_Ways_take_off⟩)
    (q_Ways_take_off : PySem.W.codeIn K cd_Ways_take_off "Ways.take_off" = true)
    (k_Ways_take_off : PySem.W.keepIn K (.ref f_Ways_take_off) = true)
    (l_Ways_leave : K.lookup f_Ways_leave = some ⟨oc_Ways_leave, od_Ways_leave, .func (PySem.W.fnOf "leave" "Ways.leave" (defArgs (sub 4 4)) (defBody (sub 4 4)) (defScope (sub 4 4)) .none kV_Ways_leave dc_Ways_leave pm_Ways_leave an_Ways_leave cd_Ways_leave ct_Ways_leave), sl_Ways_leave⟩)
    (q_Ways_leave : PySem.W.codeIn K cd_Ways_leave "Ways.leave" = true)
    (k_Ways_leave : PySem.W.keepIn K (.ref f_Ways_leave) = true)
    (l_Ways_last_first : K.lookup f_Ways_last_first = some ⟨oc_Ways_last_first, od_Ways_last_first, .func (PySem.W.fnOf "last_first" "Ways.last_first" (defArgs (sub 4 6)) (defBody (sub 4 6)) (defScope (sub 4 6)) .none kV_Ways_last_first dc_Ways_last_first pm_Ways_last_first an_Ways_last_first cd_Ways_last_first ct_Ways_last_first), sl_Ways_last_first⟩)
    (q_Ways_last_first : PySem.W.codeIn K cd_Ways_last_first "Ways.last_first" = true)
    (k_Ways_last_first : PySem.W.keepIn K (.ref f_Ways_last_first) = true)
    (l_Ways_round_from : K.lookup f_Ways_round_from = some ⟨oc_Ways_round_from, od_Ways_round_from, .func (PySem.W.fnOf "round_from" "Ways.round_from" (defArgs (sub 4 5)) (defBody (sub 4 5)) (defScope (sub 4 5)) .none kV_Ways_round_from dc_Ways_round_from pm_Ways_round_from an_Ways_round_from cd_Ways_round_from ct_Ways_round_from), sl_Ways_round_from⟩)
    (q_Ways_round_from : PySem.W.codeIn K cd_Ways_round_from "Ways.round_from" = true)
    (k_Ways_round_from : PySem.W.keepIn K (.ref f_Ways_round_from) = true)
    (a_above_nought : PySem.W.nsIn K mainGlobals "above_nought" = some (some (.ref f_above_nought)))
    (l_above_nought : K.lookup f_above_nought = some ⟨oc_above_nought, od_above_nought, .func (PySem.W.fnOf "above_nought" "above_nought" (defArgs (top 8)) (defBody (top 8)) (defScope (top 8)) .none kV_above_nought dc_above_nought pm_above_nought an_above_nought cd_above_nought ct_above_nought), sl_above_nought⟩)
    (q_above_nought : PySem.W.codeIn K cd_above_nought "above_nought" = true)
    (k_above_nought : PySem.W.keepIn K (.ref f_above_nought) = true)
    (a_cut_out : PySem.W.nsIn K mainGlobals "cut_out" = some (some (.ref f_cut_out)))
    (l_cut_out : K.lookup f_cut_out = some ⟨oc_cut_out, od_cut_out, .func (PySem.W.fnOf "cut_out" "cut_out" (defArgs (top 7)) (defBody (top 7)) (defScope (top 7)) .none kV_cut_out dc_cut_out pm_cut_out an_cut_out cd_cut_out ct_cut_out), sl_cut_out⟩)
    (q_cut_out : PySem.W.codeIn K cd_cut_out "cut_out" = true)
    (k_cut_out : PySem.W.keepIn K (.ref f_cut_out) = true)
    (a_ringless : PySem.W.nsIn K mainGlobals "ringless" = some (some (.ref f_ringless)))
    (l_ringless : K.lookup f_ringless = some ⟨oc_ringless, od_ringless, .func (PySem.W.fnOf "ringless" "ringless" (defArgs (top 5)) (defBody (top 5)) (defScope (top 5)) .none kV_ringless dc_ringless pm_ringless an_ringless cd_ringless ct_ringless), sl_ringless⟩)
    (q_ringless : PySem.W.codeIn K cd_ringless "ringless" = true)
    (k_ringless : PySem.W.keepIn K (.ref f_ringless) = true)
    (a__law_cell_at : PySem.W.nsIn K mainGlobals "_law_cell_at" = some (some (.ref f__law_cell_at)))
    (l__law_cell_at : K.lookup f__law_cell_at = some ⟨oc__law_cell_at, od__law_cell_at, .func (PySem.W.fnOf "_law_cell_at" "_law_cell_at" (defArgs (top 10)) (defBody (top 10)) (defScope (top 10)) .none kV__law_cell_at dc__law_cell_at pm__law_cell_at an__law_cell_at cd__law_cell_at ct__law_cell_at), sl__law_cell_at⟩)
    (q__law_cell_at : PySem.W.codeIn K cd__law_cell_at "_law_cell_at" = true)
    (k__law_cell_at : PySem.W.keepIn K (.ref f__law_cell_at) = true)
    (a__law_name : PySem.W.nsIn K mainGlobals "_law_name" = some (some (.ref f__law_name)))
    (l__law_name : K.lookup f__law_name = some ⟨oc__law_name, od__law_name, .func (PySem.W.fnOf "_law_name" "_law_name" (defArgs (top 11)) (defBody (top 11)) (defScope (top 11)) .none kV__law_name dc__law_name pm__law_name an__law_name cd__law_name ct__law_name), sl__law_name⟩)
    (q__law_name : PySem.W.codeIn K cd__law_name "_law_name" = true)
    (k__law_name : PySem.W.keepIn K (.ref f__law_name) = true)
    (a__law_deeds : PySem.W.nsIn K mainGlobals "_law_deeds" = some (some (.ref f__law_deeds)))
    (l__law_deeds : K.lookup f__law_deeds = some ⟨oc__law_deeds, od__law_deeds, .func (PySem.W.fnOf "_law_deeds" "_law_deeds" (defArgs (top 12)) (defBody (top 12)) (defScope (top 12)) .none kV__law_deeds dc__law_deeds pm__law_deeds an__law_deeds cd__law_deeds ct__law_deeds), sl__law_deeds⟩)
    (q__law_deeds : PySem.W.codeIn K cd__law_deeds "_law_deeds" = true)
    (k__law_deeds : PySem.W.keepIn K (.ref f__law_deeds) = true)
    (a__law_book : PySem.W.nsIn K mainGlobals "_law_book" = some (some (.ref f__law_book)))
    (l__law_book : K.lookup f__law_book = some ⟨oc__law_book, od__law_book, .func (PySem.W.fnOf "_law_book" "_law_book" (defArgs (top 13)) (defBody (top 13)) (defScope (top 13)) .none kV__law_book dc__law_book pm__law_book an__law_book cd__law_book ct__law_book), sl__law_book⟩)
    (q__law_book : PySem.W.codeIn K cd__law_book "_law_book" = true)
    (k__law_book : PySem.W.keepIn K (.ref f__law_book) = true)
    (a_ranks : PySem.W.nsIn K mainGlobals "ranks" = some (some (.ref f_ranks)))
    (l_ranks : K.lookup f_ranks = some ⟨oc_ranks, od_ranks, .func (PySem.W.fnOf "ranks" "ranks" (defArgs (top 6)) (defBody (top 6)) (defScope (top 6)) .none kV_ranks dc_ranks pm_ranks an_ranks cd_ranks ct_ranks), sl_ranks⟩)
    (q_ranks : PySem.W.codeIn K cd_ranks "ranks" = true)
    (k_ranks : PySem.W.keepIn K (.ref f_ranks) = true)
    (a__law_whole : PySem.W.nsIn K mainGlobals "_law_whole" = some (some (.ref f__law_whole)))
    (l__law_whole : K.lookup f__law_whole = some ⟨oc__law_whole, od__law_whole, .func (PySem.W.fnOf "_law_whole" "_law_whole" (defArgs (top 14)) (defBody (top 14)) (defScope (top 14)) .none kV__law_whole dc__law_whole pm__law_whole an__law_whole cd__law_whole ct__law_whole), sl__law_whole⟩)
    (q__law_whole : PySem.W.codeIn K cd__law_whole "_law_whole" = true)
    (k__law_whole : PySem.W.keepIn K (.ref f__law_whole) = true)
    (a__law_dues : PySem.W.nsIn K mainGlobals "_law_dues" = some (some (.ref f__law_dues)))
    (l__law_dues : K.lookup f__law_dues = some ⟨oc__law_dues, od__law_dues, .func (PySem.W.fnOf "_law_dues" "_law_dues" (defArgs (top 15)) (defBody (top 15)) (defScope (top 15)) .none kV__law_dues dc__law_dues pm__law_dues an__law_dues cd__law_dues ct__law_dues), sl__law_dues⟩)
    (q__law_dues : PySem.W.codeIn K cd__law_dues "_law_dues" = true)
    (k__law_dues : PySem.W.keepIn K (.ref f__law_dues) = true)
    (a__law_sums : PySem.W.nsIn K mainGlobals "_law_sums" = some (some (.ref f__law_sums)))
    (l__law_sums : K.lookup f__law_sums = some ⟨oc__law_sums, od__law_sums, .func (PySem.W.fnOf "_law_sums" "_law_sums" (defArgs (top 17)) (defBody (top 17)) (defScope (top 17)) .none kV__law_sums dc__law_sums pm__law_sums an__law_sums cd__law_sums ct__law_sums), sl__law_sums⟩)
    (q__law_sums : PySem.W.codeIn K cd__law_sums "_law_sums" = true)
    (k__law_sums : PySem.W.keepIn K (.ref f__law_sums) = true)
    (a__law_parted : PySem.W.nsIn K mainGlobals "_law_parted" = some (some (.ref f__law_parted)))
    (l__law_parted : K.lookup f__law_parted = some ⟨oc__law_parted, od__law_parted, .func (PySem.W.fnOf "_law_parted" "_law_parted" (defArgs (top 16)) (defBody (top 16)) (defScope (top 16)) .none kV__law_parted dc__law_parted pm__law_parted an__law_parted cd__law_parted ct__law_parted), sl__law_parted⟩)
    (q__law_parted : PySem.W.codeIn K cd__law_parted "_law_parted" = true)
    (k__law_parted : PySem.W.keepIn K (.ref f__law_parted) = true)
    (a__law_goes_up : PySem.W.nsIn K mainGlobals "_law_goes_up" = some (some (.ref f__law_goes_up)))
    (l__law_goes_up : K.lookup f__law_goes_up = some ⟨oc__law_goes_up, od__law_goes_up, .func (PySem.W.fnOf "_law_goes_up" "_law_goes_up" (defArgs (top 18)) (defBody (top 18)) (defScope (top 18)) .none kV__law_goes_up dc__law_goes_up pm__law_goes_up an__law_goes_up cd__law_goes_up ct__law_goes_up), sl__law_goes_up⟩)
    (q__law_goes_up : PySem.W.codeIn K cd__law_goes_up "_law_goes_up" = true)
    (k__law_goes_up : PySem.W.keepIn K (.ref f__law_goes_up) = true)
    (a__law_wide_right : PySem.W.nsIn K mainGlobals "_law_wide_right" = some (some (.ref f__law_wide_right)))
    (l__law_wide_right : K.lookup f__law_wide_right = some ⟨oc__law_wide_right, od__law_wide_right, .func (PySem.W.fnOf "_law_wide_right" "_law_wide_right" (defArgs (top 19)) (defBody (top 19)) (defScope (top 19)) .none kV__law_wide_right dc__law_wide_right pm__law_wide_right an__law_wide_right cd__law_wide_right ct__law_wide_right), sl__law_wide_right⟩)
    (q__law_wide_right : PySem.W.codeIn K cd__law_wide_right "_law_wide_right" = true)
    (k__law_wide_right : PySem.W.keepIn K (.ref f__law_wide_right) = true)
    (a_law : PySem.W.nsIn K mainGlobals "law" = some (some (.ref f_law)))
    (l_law : K.lookup f_law = some ⟨oc_law, od_law, .func (PySem.W.fnOf "law" "law" (defArgs (top 20)) (defBody (top 20)) (defScope (top 20)) .none kV_law dc_law pm_law an_law cd_law ct_law), sl_law⟩)
    (q_law : PySem.W.codeIn K cd_law "law" = true)
    (k_law : PySem.W.keepIn K (.ref f_law) = true)
    (z_any : PySem.W.nsIn K mainGlobals "any" = some none)
    (z_bool : PySem.W.nsIn K mainGlobals "bool" = some none)
    (z_dict : PySem.W.nsIn K mainGlobals "dict" = some none)
    (z_int : PySem.W.nsIn K mainGlobals "int" = some none)
    (z_isinstance : PySem.W.nsIn K mainGlobals "isinstance" = some none)
    (z_len : PySem.W.nsIn K mainGlobals "len" = some none)
    (z_list : PySem.W.nsIn K mainGlobals "list" = some none)
    (z_max : PySem.W.nsIn K mainGlobals "max" = some none)
    (z_min : PySem.W.nsIn K mainGlobals "min" = some none)
    (z_range : PySem.W.nsIn K mainGlobals "range" = some none)
    (z_reversed : PySem.W.nsIn K mainGlobals "reversed" = some none)
    (z_sorted : PySem.W.nsIn K mainGlobals "sorted" = some none)
    (z_str : PySem.W.nsIn K mainGlobals "str" = some none)
    (z_tuple : PySem.W.nsIn K mainGlobals "tuple" = some none)
    (z_zip : PySem.W.nsIn K mainGlobals "zip" = some none)
    (y_Ring : PySem.W.nsIn K mainGlobals "Ring" = some (some (.ref c_Ring)))
    (y_Ways : PySem.W.nsIn K mainGlobals "Ways" = some (some (.ref c_Ways)))
    (w_x_Ring : PySem.W.excIn K c_Ring [.type "ValueError", .type "Exception", .type "BaseException", .type "object"] "ValueError.__new__" = true)
    (w_e_Ring_Ring : PySem.W.exmOne K (.ref c_Ring) (.ref c_Ring) = some true)
    (w_i_Ring_Ring : PySem.W.kitOne K (.ref c_Ring) (.ref c_Ring) = some true)
    (v_Ring_cls : PySem.W.clsIn K c_Ring = some xc_Ring)
    (v_Ring_ga : PySem.W.findIn K (.ref c_Ring) "__getattribute__" = some (some (.builtin "BaseException.__getattribute__")))
    (v_Ring_gt : PySem.W.findIn K (.ref c_Ring) "__getattr__" = some none)
    (v_Ring_at_ : PySem.W.findIn K (.ref c_Ring) "__class__" = some (some (.builtin "object.__class__")))
    (v_Ring_get : PySem.W.specialIn K (.builtin "object.__class__") "__get__" = some (some (.builtin "getset_descriptor.__get__")))
    (v_Ring_tk : PySem.W.takesIn K (.builtin "object.__class__") = some true)
    (v_Ring_obj : PySem.W.mroIn K c_Ring (.type "object") = some true)
    (v_Ring_exc : PySem.W.mroIn K c_Ring (.type "BaseException") = some true)
    (ka_Ways : PySem.W.makesIn K c_Ways = true)
    (kin_Ways : PySem.W.findIn K (.ref c_Ways) "__init__" = some (some (.ref f_Ways___init__)))
    (kif_Ways : PySem.W.isFn K (.ref f_Ways___init__) = true)
    (kc_Ways : PySem.W.keepIn K (.ref c_Ways) = true)
    (kd_Ways : PySem.W.plainGet K c_Ways Str.empty = true)
    (ke_Ways : PySem.W.hasDictIn K c_Ways = true)
    (kg_Ways : PySem.W.plainOver K c_Ways = true)
    (kh_Ways : PySem.W.findIn K (.ref c_Ways) "__setattr__" = some (some (.builtin "object.__setattr__")))
    (no_Ways_creditors : PySem.W.findIn K (.ref c_Ways) "creditors" = some none)
    (no_Ways_owers : PySem.W.findIn K (.ref c_Ways) "owers" = some none)
    (me_Ways_is_owed : PySem.W.findIn K (.ref c_Ways) "is_owed" = some (some (.ref f_Ways_is_owed)))
    (me_Ways_last_first : PySem.W.findIn K (.ref c_Ways) "last_first" = some (some (.ref f_Ways_last_first)))
    (me_Ways_leave : PySem.W.findIn K (.ref c_Ways) "leave" = some (some (.ref f_Ways_leave)))
    (me_Ways_names : PySem.W.findIn K (.ref c_Ways) "names" = some (some (.ref f_Ways_names)))
    (me_Ways_round_from : PySem.W.findIn K (.ref c_Ways) "round_from" = some (some (.ref f_Ways_round_from)))
    (me_Ways_take_off : PySem.W.findIn K (.ref c_Ways) "take_off" = some (some (.ref f_Ways_take_off)))
    (mf_Ways_is_owed : PySem.W.isFn K (.ref f_Ways_is_owed) = true)
    (mf_Ways_last_first : PySem.W.isFn K (.ref f_Ways_last_first) = true)
    (mf_Ways_leave : PySem.W.isFn K (.ref f_Ways_leave) = true)
    (mf_Ways_names : PySem.W.isFn K (.ref f_Ways_names) = true)
    (mf_Ways_round_from : PySem.W.isFn K (.ref f_Ways_round_from) = true)
    (mf_Ways_take_off : PySem.W.isFn K (.ref f_Ways_take_off) = true)
    : ∃ fd : FuncData, (∀ (s : Shared) (v : Value), BindsTo s fd ⟨[v], []⟩ [("script", v)]) ∧ ∀ base : Heap, K.In base → base.Ns mainGlobals mg → FnOk l.prog w K mg base CX0 5 fa fd ["script"] (sp_law K) := by
  have e := hfa.symm.trans (PySem.W.mg_of X G a_law)
  cases e
  have B : Bl mg := ⟨PySem.W.mg_none_of X G z_any, PySem.W.mg_none_of X G z_bool, PySem.W.mg_none_of X G z_dict, PySem.W.mg_none_of X G z_int, PySem.W.mg_none_of X G z_isinstance, PySem.W.mg_none_of X G z_len, PySem.W.mg_none_of X G z_list, PySem.W.mg_none_of X G z_max, PySem.W.mg_none_of X G z_min, PySem.W.mg_none_of X G z_range, PySem.W.mg_none_of X G z_reversed, PySem.W.mg_none_of X G z_sorted, PySem.W.mg_none_of X G z_str, PySem.W.mg_none_of X G z_tuple, PySem.W.mg_none_of X G z_zip⟩
  let C : Co mg := ⟨⟩
  let R : Er K mg := ⟨c_Ring, c_Ways, PySem.W.mg_of X G y_Ring, PySem.W.mg_of X G y_Ways, w_x_Ring, w_e_Ring_Ring, w_i_Ring_Ring, ⟨(by rw [v_Ring_cls]; rfl), v_Ring_ga, v_Ring_gt, v_Ring_at_, v_Ring_get, v_Ring_tk, v_Ring_obj, v_Ring_exc⟩, ⟨kd_Ways, ke_Ways, kg_Ways, kh_Ways⟩, no_Ways_creditors, no_Ways_owers⟩
  let d_Ways___init__ : L2.Mv K "__init__" "Ways.__init__" (sub 4 0) ["self", "book"] := ⟨f_Ways___init__, _, fun_mk (st := (sub 4 0)) l_Ways___init__ q_Ways___init__ k_Ways___init__, (fun_mk (st := (sub 4 0)) l_Ways___init__ q_Ways___init__ k_Ways___init__).binds fun _ _ _ _ _ _ us hl => match us, hl with | [_, _], _ => rfl⟩
  let d_Ways_names : L2.Mv K "names" "Ways.names" (sub 4 1) ["self"] := ⟨f_Ways_names, _, fun_mk (st := (sub 4 1)) l_Ways_names q_Ways_names k_Ways_names, (fun_mk (st := (sub 4 1)) l_Ways_names q_Ways_names k_Ways_names).binds fun _ _ _ _ _ _ us hl => match us, hl with | [_], _ => rfl⟩
  let d_Ways_is_owed : L2.Mv K "is_owed" "Ways.is_owed" (sub 4 2) ["self", "who"] := ⟨f_Ways_is_owed, _, fun_mk (st := (sub 4 2)) l_Ways_is_owed q_Ways_is_owed k_Ways_is_owed, (fun_mk (st := (sub 4 2)) l_Ways_is_owed q_Ways_is_owed k_Ways_is_owed).binds fun _ _ _ _ _ _ us hl => match us, hl with | [_, _], _ => rfl⟩
  let d_Ways_take_off : L2.Mv K "take_off" "Ways.take_off" (sub 4 3) ["self", "debtor", "creditor"] := ⟨f_Ways_take_off, _, fun_mk (st := (sub 4 3)) l_Ways_take_off q_Ways_take_off k_Ways_take_off, (fun_mk (st := (sub 4 3)) l_Ways_take_off q_Ways_take_off k_Ways_take_off).binds fun _ _ _ _ _ _ us hl => match us, hl with | [_, _, _], _ => rfl⟩
  let d_Ways_leave : L2.Mv K "leave" "Ways.leave" (sub 4 4) ["self", "debtor"] := ⟨f_Ways_leave, _, fun_mk (st := (sub 4 4)) l_Ways_leave q_Ways_leave k_Ways_leave, (fun_mk (st := (sub 4 4)) l_Ways_leave q_Ways_leave k_Ways_leave).binds fun _ _ _ _ _ _ us hl => match us, hl with | [_, _], _ => rfl⟩
  let d_Ways_last_first : L2.Mv K "last_first" "Ways.last_first" (sub 4 6) ["self", "debtor"] := ⟨f_Ways_last_first, _, fun_mk (st := (sub 4 6)) l_Ways_last_first q_Ways_last_first k_Ways_last_first, (fun_mk (st := (sub 4 6)) l_Ways_last_first q_Ways_last_first k_Ways_last_first).binds fun _ _ _ _ _ _ us hl => match us, hl with | [_, _], _ => rfl⟩
  let d_Ways_round_from : L2.Mv K "round_from" "Ways.round_from" (sub 4 5) ["self", "start"] := ⟨f_Ways_round_from, _, fun_mk (st := (sub 4 5)) l_Ways_round_from q_Ways_round_from k_Ways_round_from, (fun_mk (st := (sub 4 5)) l_Ways_round_from q_Ways_round_from k_Ways_round_from).binds fun _ _ _ _ _ _ us hl => match us, hl with | [_, _], _ => rfl⟩
  let d_above_nought : Dv K mg "above_nought" (top 8) ["dues"] := ⟨f_above_nought, _, fun_mk (st := top 8) l_above_nought q_above_nought k_above_nought, (fun_mk (st := top 8) l_above_nought q_above_nought k_above_nought).binds fun _ _ _ _ _ _ us hl => match us, hl with | [_], _ => rfl, PySem.W.mg_of X G a_above_nought⟩
  let d_cut_out : Dv K mg "cut_out" (top 7) ["found", "ways", "left"] := ⟨f_cut_out, _, fun_mk (st := top 7) l_cut_out q_cut_out k_cut_out, (fun_mk (st := top 7) l_cut_out q_cut_out k_cut_out).binds fun _ _ _ _ _ _ us hl => match us, hl with | [_, _, _], _ => rfl, PySem.W.mg_of X G a_cut_out⟩
  let d_ringless : Dv K mg "ringless" (top 5) ["book"] := ⟨f_ringless, _, fun_mk (st := top 5) l_ringless q_ringless k_ringless, (fun_mk (st := top 5) l_ringless q_ringless k_ringless).binds fun _ _ _ _ _ _ us hl => match us, hl with | [_], _ => rfl, PySem.W.mg_of X G a_ringless⟩
  let d__law_cell_at : Dv K mg "_law_cell_at" (top 10) ["script", "k"] := ⟨f__law_cell_at, _, fun_mk (st := top 10) l__law_cell_at q__law_cell_at k__law_cell_at, (fun_mk (st := top 10) l__law_cell_at q__law_cell_at k__law_cell_at).binds fun _ _ _ _ _ _ us hl => match us, hl with | [_, _], _ => rfl, PySem.W.mg_of X G a__law_cell_at⟩
  let d__law_name : Dv K mg "_law_name" (top 11) ["k", "cell"] := ⟨f__law_name, _, fun_mk (st := top 11) l__law_name q__law_name k__law_name, (fun_mk (st := top 11) l__law_name q__law_name k__law_name).binds fun _ _ _ _ _ _ us hl => match us, hl with | [_, _], _ => rfl, PySem.W.mg_of X G a__law_name⟩
  let d__law_deeds : Dv K mg "_law_deeds" (top 12) ["script", "many"] := ⟨f__law_deeds, _, fun_mk (st := top 12) l__law_deeds q__law_deeds k__law_deeds, (fun_mk (st := top 12) l__law_deeds q__law_deeds k__law_deeds).binds fun _ _ _ _ _ _ us hl => match us, hl with | [_, _], _ => rfl, PySem.W.mg_of X G a__law_deeds⟩
  let d__law_book : Dv K mg "_law_book" (top 13) ["deeds", "names"] := ⟨f__law_book, _, fun_mk (st := top 13) l__law_book q__law_book k__law_book, (fun_mk (st := top 13) l__law_book q__law_book k__law_book).binds fun _ _ _ _ _ _ us hl => match us, hl with | [_, _], _ => rfl, PySem.W.mg_of X G a__law_book⟩
  let d_ranks : Dv K mg "ranks" (top 6) ["book"] := ⟨f_ranks, _, fun_mk (st := top 6) l_ranks q_ranks k_ranks, (fun_mk (st := top 6) l_ranks q_ranks k_ranks).binds fun _ _ _ _ _ _ us hl => match us, hl with | [_], _ => rfl, PySem.W.mg_of X G a_ranks⟩
  let d__law_whole : Dv K mg "_law_whole" (top 14) ["found"] := ⟨f__law_whole, _, fun_mk (st := top 14) l__law_whole q__law_whole k__law_whole, (fun_mk (st := top 14) l__law_whole q__law_whole k__law_whole).binds fun _ _ _ _ _ _ us hl => match us, hl with | [_], _ => rfl, PySem.W.mg_of X G a__law_whole⟩
  let d__law_dues : Dv K mg "_law_dues" (top 15) ["rows"] := ⟨f__law_dues, _, fun_mk (st := top 15) l__law_dues q__law_dues k__law_dues, (fun_mk (st := top 15) l__law_dues q__law_dues k__law_dues).binds fun _ _ _ _ _ _ us hl => match us, hl with | [_], _ => rfl, PySem.W.mg_of X G a__law_dues⟩
  let d__law_sums : Dv K mg "_law_sums" (top 17) ["rows", "names"] := ⟨f__law_sums, _, fun_mk (st := top 17) l__law_sums q__law_sums k__law_sums, (fun_mk (st := top 17) l__law_sums q__law_sums k__law_sums).binds fun _ _ _ _ _ _ us hl => match us, hl with | [_, _], _ => rfl, PySem.W.mg_of X G a__law_sums⟩
  let d__law_parted : Dv K mg "_law_parted" (top 16) ["book", "cuts", "left"] := ⟨f__law_parted, _, fun_mk (st := top 16) l__law_parted q__law_parted k__law_parted, (fun_mk (st := top 16) l__law_parted q__law_parted k__law_parted).binds fun _ _ _ _ _ _ us hl => match us, hl with | [_, _, _], _ => rfl, PySem.W.mg_of X G a__law_parted⟩
  let d__law_goes_up : Dv K mg "_law_goes_up" (top 18) ["left"] := ⟨f__law_goes_up, _, fun_mk (st := top 18) l__law_goes_up q__law_goes_up k__law_goes_up, (fun_mk (st := top 18) l__law_goes_up q__law_goes_up k__law_goes_up).binds fun _ _ _ _ _ _ us hl => match us, hl with | [_], _ => rfl, PySem.W.mg_of X G a__law_goes_up⟩
  let d__law_wide_right : Dv K mg "_law_wide_right" (top 19) ["script"] := ⟨f__law_wide_right, _, fun_mk (st := top 19) l__law_wide_right q__law_wide_right k__law_wide_right, (fun_mk (st := top 19) l__law_wide_right q__law_wide_right k__law_wide_right).binds fun _ _ _ _ _ _ us hl => match us, hl with | [_], _ => rfl, PySem.W.mg_of X G a__law_wide_right⟩
  let d_law : Dv K mg "law" (top 20) ["script"] := ⟨_, _, fun_mk (st := top 20) l_law q_law k_law, (fun_mk (st := top 20) l_law q_law k_law).binds fun _ _ _ _ _ _ us hl => match us, hl with | [_], _ => rfl, PySem.W.mg_of X G a_law⟩
  refine ⟨d_law.fd, fun s v => .of_eq rfl, fun base _ _ => ?_⟩
  have G_Ways___init__ := ok_Ways___init__ (P := l.prog) (w := w) (base := base) d_Ways___init__ B C R
  have G_Ways_names := ok_Ways_names (P := l.prog) (w := w) (base := base) d_Ways_names B C R
  have G_Ways_is_owed := ok_Ways_is_owed (P := l.prog) (w := w) (base := base) d_Ways_is_owed B C R
  have G_Ways_take_off := ok_Ways_take_off (P := l.prog) (w := w) (base := base) d_Ways_take_off B C R
  have G_Ways_leave := ok_Ways_leave (P := l.prog) (w := w) (base := base) d_Ways_leave B C R
  have G_Ways_last_first := ok_Ways_last_first (P := l.prog) (w := w) (base := base) d_Ways_last_first B C R
  have G_Ways_round_from := ok_Ways_round_from (P := l.prog) (w := w) (base := base) d_Ways_round_from B C R d_Ways_is_owed G_Ways_is_owed d_Ways_last_first G_Ways_last_first ⟨me_Ways_is_owed, mf_Ways_is_owed, k_Ways_is_owed⟩ ⟨me_Ways_last_first, mf_Ways_last_first, k_Ways_last_first⟩
  have G_above_nought := ok_above_nought (P := l.prog) (w := w) (base := base) d_above_nought B C R
  have G_cut_out := ok_cut_out (P := l.prog) (w := w) (base := base) d_cut_out B C R d_Ways_take_off G_Ways_take_off ⟨me_Ways_take_off, mf_Ways_take_off, k_Ways_take_off⟩
  have G_ringless := ok_ringless (P := l.prog) (w := w) (base := base) d_ringless B C R d_Ways___init__ G_Ways___init__ d_Ways_names G_Ways_names d_Ways_round_from G_Ways_round_from d_cut_out G_cut_out d_Ways_leave G_Ways_leave d_above_nought G_above_nought ⟨me_Ways_names, mf_Ways_names, k_Ways_names⟩ ⟨me_Ways_round_from, mf_Ways_round_from, k_Ways_round_from⟩ ⟨me_Ways_leave, mf_Ways_leave, k_Ways_leave⟩ ⟨ka_Ways, kin_Ways, kif_Ways, kc_Ways⟩
  have G__law_cell_at := ok__law_cell_at (P := l.prog) (w := w) (base := base) d__law_cell_at B C R
  have G__law_name := ok__law_name (P := l.prog) (w := w) (base := base) d__law_name B C R
  have G__law_deeds := ok__law_deeds (P := l.prog) (w := w) (base := base) d__law_deeds B C R d__law_cell_at G__law_cell_at
  have G__law_book := ok__law_book (P := l.prog) (w := w) (base := base) d__law_book B C R
  have G_ranks := ok_ranks (P := l.prog) (w := w) (base := base) d_ranks B C R d_Ways___init__ G_Ways___init__ d_Ways_names G_Ways_names d_Ways_is_owed G_Ways_is_owed d_Ways_leave G_Ways_leave ⟨me_Ways_names, mf_Ways_names, k_Ways_names⟩ ⟨me_Ways_is_owed, mf_Ways_is_owed, k_Ways_is_owed⟩ ⟨me_Ways_leave, mf_Ways_leave, k_Ways_leave⟩ ⟨ka_Ways, kin_Ways, kif_Ways, kc_Ways⟩
  have G__law_whole := ok__law_whole (P := l.prog) (w := w) (base := base) d__law_whole B C R
  have G__law_dues := ok__law_dues (P := l.prog) (w := w) (base := base) d__law_dues B C R d__law_whole G__law_whole
  have G__law_sums := ok__law_sums (P := l.prog) (w := w) (base := base) d__law_sums B C R
  have G__law_parted := ok__law_parted (P := l.prog) (w := w) (base := base) d__law_parted B C R
  have G__law_goes_up := ok__law_goes_up (P := l.prog) (w := w) (base := base) d__law_goes_up B C R d_ranks G_ranks
  have G__law_wide_right := ok__law_wide_right (P := l.prog) (w := w) (base := base) d__law_wide_right B C R d__law_name G__law_name d__law_cell_at G__law_cell_at d_ringless G_ringless d_ranks G_ranks
  exact ok_law d_law B C R d__law_cell_at G__law_cell_at d__law_name G__law_name d__law_book G__law_book d__law_deeds G__law_deeds d_ringless G_ringless d__law_parted G__law_parted d__law_dues G__law_dues d__law_sums G__law_sums d__law_goes_up G__law_goes_up d__law_wide_right G__law_wide_right
theorem walk {l : PySem.W.OpenLaw} {q : Program} {loose : List Str} {XP : (Str → Option Value) → Heap → Prop} {YP : World → Heap → Prop} {d : DefRec} {K : Params → PySem.W.Frag} (hn : l.most = some 63) (hdf : d.params.defaults = [])
    (hY : ∀ (w : World) (h : Heap), YP w h → (K w.params).In h)
    (F : ∀ (w : World) (mg : Str → Option Value) (fa : Addr) (h : Heap), (K w.params).In h → h.Ns mainGlobals mg → mg d.name = some (.ref fa) →
      ∃ fd : FuncData, (∀ (s : Shared) (u : Value), BindsTo s fd ⟨[u], []⟩ [("script", u)]) ∧ ∀ base : Heap, (K w.params).In base → base.Ns mainGlobals mg → FnOk l.prog w (K w.params) mg base CX0 5 fa fd ["script"] (sp_law (K w.params))) :
    PySem.W.WalkO q loose XP YP l.row.toRowW d [] (fun f vs => PySem.call f vs) :=
  L2.walk_ofL (n := 63) (k := 5) (x := "script") (CX := fun _ => CX0) (sp := fun w => sp_law (K w.params)) hn (by decide) hdf ⟨rfl, by decide, by decide⟩ hY F (fun _ _ a ns hl hb hS => ⟨a, ns, rfl, hS, hl, hb, fun _ => rfl⟩) fun _ _ _ _ _ z => z
end K56
open PySem PySem.W PyProof.Rows
set_option maxRecDepth 100000 in
set_option maxHeartbeats 0 in
theorem PySem.Challenge.cw_bellbook_k56_whole_no_ring_is_left_holds : PySem.Challenge.rw_bellbook_k56_whole_no_ring_is_left.Holds := by
  w_on; o_law; k_head; (case hw => w_witness2)
  k_fill
  refine K56.walk (l := PySem.Challenge.rw_bellbook_k56_whole_no_ring_is_left) rfl rfl (fun w h Y => PySem.W.kIn_of Y) ?F
  case F =>
    intro w mg fa h KX G hmg
    refine' K56.all_mk KX G hmg ?l_Ways___init__ ?q_Ways___init__ ?k_Ways___init__ ?l_Ways_names ?q_Ways_names ?k_Ways_names ?l_Ways_is_owed ?q_Ways_is_owed ?k_Ways_is_owed ?l_Ways_take_off ?q_Ways_take_off ?k_Ways_take_off ?l_Ways_leave ?q_Ways_leave ?k_Ways_leave ?l_Ways_last_first ?q_Ways_last_first ?k_Ways_last_first ?l_Ways_round_from ?q_Ways_round_from ?k_Ways_round_from ?a_above_nought ?l_above_nought ?q_above_nought ?k_above_nought ?a_cut_out ?l_cut_out ?q_cut_out ?k_cut_out ?a_ringless ?l_ringless ?q_ringless ?k_ringless ?a__law_cell_at ?l__law_cell_at ?q__law_cell_at ?k__law_cell_at ?a__law_name ?l__law_name ?q__law_name ?k__law_name ?a__law_deeds ?l__law_deeds ?q__law_deeds ?k__law_deeds ?a__law_book ?l__law_book ?q__law_book ?k__law_book ?a_ranks ?l_ranks ?q_ranks ?k_ranks ?a__law_whole ?l__law_whole ?q__law_whole ?k__law_whole ?a__law_dues ?l__law_dues ?q__law_dues ?k__law_dues ?a__law_sums ?l__law_sums ?q__law_sums ?k__law_sums ?a__law_parted ?l__law_parted ?q__law_parted ?k__law_parted ?a__law_goes_up ?l__law_goes_up ?q__law_goes_up ?k__law_goes_up ?a__law_wide_right ?l__law_wide_right ?q__law_wide_right ?k__law_wide_right ?a_law ?l_law ?q_law ?k_law ?z_any ?z_bool ?z_dict ?z_int ?z_isinstance ?z_len ?z_list ?z_max ?z_min ?z_range ?z_reversed ?z_sorted ?z_str ?z_tuple ?z_zip ?y_Ring ?y_Ways ?w_x_Ring ?w_e_Ring_Ring ?w_i_Ring_Ring ?v_Ring_cls ?v_Ring_ga ?v_Ring_gt ?v_Ring_at_ ?v_Ring_get ?v_Ring_tk ?v_Ring_obj ?v_Ring_exc ?ka_Ways ?kin_Ways ?kif_Ways ?kc_Ways ?kd_Ways ?ke_Ways ?kg_Ways ?kh_Ways ?no_Ways_creditors ?no_Ways_owers ?me_Ways_is_owed ?me_Ways_last_first ?me_Ways_leave ?me_Ways_names ?me_Ways_round_from ?me_Ways_take_off ?mf_Ways_is_owed ?mf_Ways_last_first ?mf_Ways_leave ?mf_Ways_names ?mf_Ways_round_from ?mf_Ways_take_off
    (case y_Ring => k_is)
    (case y_Ways => k_is)
    (case kin_Ways => k_is)
    (case me_Ways_is_owed => k_is)
    (case me_Ways_last_first => k_is)
    (case me_Ways_leave => k_is)
    (case me_Ways_names => k_is)
    (case me_Ways_round_from => k_is)
    (case me_Ways_take_off => k_is)
    (case l_Ways___init__ => k_is)
    (case q_Ways___init__ => k_is)
    (case k_Ways___init__ => k_is)
    (case l_Ways_names => k_is)
    (case q_Ways_names => k_is)
    (case k_Ways_names => k_is)
    (case l_Ways_is_owed => k_is)
    (case q_Ways_is_owed => k_is)
    (case k_Ways_is_owed => k_is)
    (case l_Ways_take_off => k_is)
    (case q_Ways_take_off => k_is)
    (case k_Ways_take_off => k_is)
    (case l_Ways_leave => k_is)
    (case q_Ways_leave => k_is)
    (case k_Ways_leave => k_is)
    (case l_Ways_last_first => k_is)
    (case q_Ways_last_first => k_is)
    (case k_Ways_last_first => k_is)
    (case l_Ways_round_from => k_is)
    (case q_Ways_round_from => k_is)
    (case k_Ways_round_from => k_is)
    (case a_above_nought => k_is)
    (case l_above_nought => k_is)
    (case q_above_nought => k_is)
    (case k_above_nought => k_is)
    (case a_cut_out => k_is)
    (case l_cut_out => k_is)
    (case q_cut_out => k_is)
    (case k_cut_out => k_is)
    (case a_ringless => k_is)
    (case l_ringless => k_is)
    (case q_ringless => k_is)
    (case k_ringless => k_is)
    (case a__law_cell_at => k_is)
    (case l__law_cell_at => k_is)
    (case q__law_cell_at => k_is)
    (case k__law_cell_at => k_is)
    (case a__law_name => k_is)
    (case l__law_name => k_is)
    (case q__law_name => k_is)
    (case k__law_name => k_is)
    (case a__law_deeds => k_is)
    (case l__law_deeds => k_is)
    (case q__law_deeds => k_is)
    (case k__law_deeds => k_is)
    (case a__law_book => k_is)
    (case l__law_book => k_is)
    (case q__law_book => k_is)
    (case k__law_book => k_is)
    (case a_ranks => k_is)
    (case l_ranks => k_is)
    (case q_ranks => k_is)
    (case k_ranks => k_is)
    (case a__law_whole => k_is)
    (case l__law_whole => k_is)
    (case q__law_whole => k_is)
    (case k__law_whole => k_is)
    (case a__law_dues => k_is)
    (case l__law_dues => k_is)
    (case q__law_dues => k_is)
    (case k__law_dues => k_is)
    (case a__law_sums => k_is)
    (case l__law_sums => k_is)
    (case q__law_sums => k_is)
    (case k__law_sums => k_is)
    (case a__law_parted => k_is)
    (case l__law_parted => k_is)
    (case q__law_parted => k_is)
    (case k__law_parted => k_is)
    (case a__law_goes_up => k_is)
    (case l__law_goes_up => k_is)
    (case q__law_goes_up => k_is)
    (case k__law_goes_up => k_is)
    (case a__law_wide_right => k_is)
    (case l__law_wide_right => k_is)
    (case q__law_wide_right => k_is)
    (case k__law_wide_right => k_is)
    (case a_law => k_is)
    (case l_law => k_is)
    (case q_law => k_is)
    (case k_law => k_is)
    (case z_any => k_is)
    (case z_bool => k_is)
    (case z_dict => k_is)
    (case z_int => k_is)
    (case z_isinstance => k_is)
    (case z_len => k_is)
    (case z_list => k_is)
    (case z_max => k_is)
    (case z_min => k_is)
    (case z_range => k_is)
    (case z_reversed => k_is)
    (case z_sorted => k_is)
    (case z_str => k_is)
    (case z_tuple => k_is)
    (case z_zip => k_is)
    (case w_x_Ring => k_exc)
    (case w_e_Ring_Ring => kts_exm)
    (case w_i_Ring_Ring => kit_is)
    (case v_Ring_cls => k_is)
    (case v_Ring_ga => k_is)
    (case v_Ring_gt => k_is)
    (case v_Ring_at_ => k_is)
    (case v_Ring_get => k_is)
    (case v_Ring_tk => k_is)
    (case v_Ring_obj => k_is)
    (case v_Ring_exc => k_is)
    (case ka_Ways => k_is)
    (case kif_Ways => k_is)
    (case kc_Ways => k_is)
    (case kd_Ways => k_is)
    (case ke_Ways => k_is)
    (case kg_Ways => k_is)
    (case kh_Ways => k_is)
    (case no_Ways_creditors => k_is)
    (case no_Ways_owers => k_is)
    (case mf_Ways_is_owed => k_is)
    (case mf_Ways_last_first => k_is)
    (case mf_Ways_leave => k_is)
    (case mf_Ways_names => k_is)
    (case mf_Ways_round_from => k_is)
    (case mf_Ways_take_off => k_is)
